package sets_test

import (
	"slices"
	"testing"

	"tideway/sets"
)

func TestNumbersOfSets(t *testing.T) {
	for _, row := range []struct {
		numbers, want []int
		s             sets.Set
	}{
		{nil, nil, 0}, {[]int{0}, []int{0}, 1}, {[]int{3, 0, 1, 3}, []int{0, 1, 3}, 11}, {[]int{63}, []int{63}, 1 << 63}, {[]int{63, 62, 0}, []int{0, 62, 63}, 3<<62 + 1},
	} {
		s := sets.Of(row.numbers)
		if s != row.s || !slices.Equal(s.Numbers(), row.want) || s.Size() != len(row.want) {
			t.Errorf("%v: got %d with the numbers %v, of the size %d", row.numbers, s, s.Numbers(), s.Size())
		}
		for number := range 64 {
			if s.Has(number) != slices.Contains(row.numbers, number) {
				t.Errorf("%d is in %v: got %v", number, row.numbers, s.Has(number))
			}
			if with := s.With(number); with != sets.Of(append(slices.Clone(row.numbers), number)) {
				t.Errorf("%v with %d: got %v", row.numbers, number, with.Numbers())
			}
		}
	}
}

func TestOnlyAndBelow(t *testing.T) {
	var all []int
	for number := range 64 {
		if got := sets.Below(number).Numbers(); !slices.Equal(got, all) {
			t.Errorf("Below of %d: got %v", number, got)
		}
		all = append(all, number)
		if got := sets.Only(number).Numbers(); !slices.Equal(got, []int{number}) {
			t.Errorf("Only of %d: got %v", number, got)
		}
	}
	if got := sets.Below(64).Numbers(); !slices.Equal(got, all) {
		t.Errorf("Below of 64: got %v", got)
	}
}

func TestAll(t *testing.T) {
	for n, want := range [][]sets.Set{{0}, {0, 1}, {0, 1, 2, 3}, {0, 1, 2, 3, 4, 5, 6, 7}} {
		if got := slices.Collect(sets.All(n)); !slices.Equal(got, want) {
			t.Errorf("All of %d: got %v", n, got)
		}
	}
	visited := 0
	for s := range sets.All(63) {
		visited++
		if s == 5 {
			break
		}
	}
	if visited != 6 {
		t.Errorf("%d sets are visited", visited)
	}
}

func TestContains(t *testing.T) {
	for _, row := range []struct {
		s, other sets.Set
		want     bool
	}{
		{0, 0, true}, {5, 0, true}, {0, 1, false}, {5, 4, true}, {5, 5, true}, {5, 7, false}, {5, 2, false}, {7, 5, true},
	} {
		if got := row.s.Contains(row.other); got != row.want {
			t.Errorf("%d contains %d: got %v", row.s, row.other, got)
		}
	}
}
