// Package sets has sets of small numbers.
package sets

import (
	"iter"
	"math/bits"
)

// Set is a set of numbers from 0 to 63: the bit of each one is set.
type Set uint64

// Only returns the set of one number.
func Only(number int) Set {
	return 1 << number
}

// Of returns the set of some numbers.
func Of(numbers []int) Set {
	var out Set
	for _, number := range numbers {
		out = out.With(number)
	}
	return out
}

// Below returns the set of all numbers below n.
func Below(n int) Set {
	return Only(n) - 1
}

// All visits the sets of numbers below n, which is at most 63, ascending as integers.
func All(n int) iter.Seq[Set] {
	return func(yield func(Set) bool) {
		for s := range Only(n) {
			if !yield(s) {
				return
			}
		}
	}
}

// With returns a set and one number.
func (s Set) With(number int) Set {
	return s | Only(number)
}

// Has reports whether a number is in a set.
func (s Set) Has(number int) bool {
	return s.Contains(Only(number))
}

// Contains reports whether all numbers of another set are in a set.
func (s Set) Contains(other Set) bool {
	return s&other == other
}

// Size returns how many numbers are in a set.
func (s Set) Size() int {
	return bits.OnesCount64(uint64(s))
}

// Numbers returns the numbers of a set, ascending.
func (s Set) Numbers() []int {
	var out []int
	for number := range bits.Len64(uint64(s)) {
		if s.Has(number) {
			out = append(out, number)
		}
	}
	return out
}
