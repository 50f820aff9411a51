package fault

import (
	"cmp"
	"iter"
	"math/bits"
	"slices"

	"tideway/sets"
)

// compare orders sets by their sizes, then by the first place at which they differ.
func compare(s, other sets.Set) int {
	// Of two sets of one size, the first one has the least number that is not in both: in reverse, the highest bit.
	return cmp.Or(cmp.Compare(s.Size(), other.Size()), cmp.Compare(reverse(other), reverse(s)))
}

func reverse(s sets.Set) uint64 {
	return bits.Reverse64(uint64(s))
}

// minimal returns those of some sets that contain no other one, in order.
func minimal(l iter.Seq[sets.Set]) []sets.Set {
	var out []sets.Set
search:
	for _, s := range slices.SortedFunc(l, compare) {
		for _, smaller := range out {
			if s.Contains(smaller) {
				continue search
			}
		}
		out = append(out, s)
	}
	return out
}
