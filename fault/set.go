package fault

import (
	"cmp"
	"iter"
	"math/bits"
	"slices"
)

// set is a set of numbers, of events or of nodes: the bit of each one is set.
type set uint64

// only returns the set of one number.
func only(number int) set {
	return 1 << number
}

func setOf(numbers []int) set {
	var out set
	for _, number := range numbers {
		out |= only(number)
	}
	return out
}

func (s set) has(number int) bool {
	return s.contains(only(number))
}

func (s set) contains(other set) bool {
	return s&other == other
}

func (s set) size() int {
	return bits.OnesCount64(uint64(s))
}

// numbers returns the numbers of a set, ascending.
func (s set) numbers() []int {
	var out []int
	for number := range bits.Len64(uint64(s)) {
		if s.has(number) {
			out = append(out, number)
		}
	}
	return out
}

// compare orders sets by their sizes, then by the first place at which they differ.
func (s set) compare(other set) int {
	// Of two sets of one size, the first one has the least number that is not in both: in reverse, the highest bit.
	return cmp.Or(cmp.Compare(s.size(), other.size()), cmp.Compare(other.reverse(), s.reverse()))
}

func (s set) reverse() uint64 {
	return bits.Reverse64(uint64(s))
}

// minimal returns those of some sets that contain no other one, in order.
func minimal(l iter.Seq[set]) []set {
	var out []set
search:
	for _, s := range slices.SortedFunc(l, set.compare) {
		for _, smaller := range out {
			if s.contains(smaller) {
				continue search
			}
		}
		out = append(out, s)
	}
	return out
}
