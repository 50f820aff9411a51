package policy_test

import (
	"math/rand"
	"slices"
	"testing"

	"tideway/api"
	"tideway/policy"
)

// P5.3

// wantBest compares the numbers of a best policy, and looks whether it has them and keeps the needed weight.
func wantBest(t *testing.T, s policy.Season, need, closings, delay int) {
	t.Helper()
	p, gotClosings, gotDelay, e := policy.Best(s, need)
	want(t, "Best", []any{gotClosings, gotDelay, e}, []any{closings, delay, api.OK})
	want(t, "CheckPolicy", policy.CheckPolicy(s, p), api.OK)
	f := figuresOf(s, p)
	want(t, "the policy", []any{f.weight >= need, f.closings, f.delay}, []any{true, closings, delay})
}

func wantNoBest(t *testing.T, s policy.Season, need int, wanted api.Errno) {
	t.Helper()
	p, closings, delay, e := policy.Best(s, need)
	wantError(t, "Best", p, e, wanted)
	want(t, "the numbers beside an error", list(closings, delay), list(0, 0))
}

func wantMost(t *testing.T, s policy.Season, wanted int) {
	t.Helper()
	most, e := policy.Most(s)
	want(t, "Most", []any{most, e}, []any{wanted, api.OK})
}

func TestMost(t *testing.T) {
	wantMost(t, ss(), 4)
	wantMost(t, most(), 8000)
	wantMost(t, changed(func(s *policy.Season) { s.Limit = 9 }), 0)
	wantMost(t, with(1, func(m *policy.Member) { m.Outside, m.Inflow = list(40, 40), list(20, 20) }), 3)
	// With the same classes all have the same closings.
	wantMost(t, with(0, func(m *policy.Member) { m.Classes = list(0, 1) }), 3)
	for _, bad := range badSeasons() {
		n, e := policy.Most(bad.s)
		wantError(t, "Most", n, e, bad.e)
	}
}

func TestBest(t *testing.T) {
	// Example 3.
	wantBest(t, ss(), 4, 6, 34)
	wantBest(t, ss(), 3, 2, 14)
	p, _, _, _ := policy.Best(ss(), 4)
	want(t, "the policy for 4", p, sp(true, true, false))
	p, _, _, _ = policy.Best(ss(), 3)
	want(t, "the policy for 3", p, sp(false, true, false))
	wantBest(t, ss(), 2, 2, 14)
	wantBest(t, ss(), 1, 0, 0)
	wantBest(t, ss(), 0, 0, 0)
	wantBest(t, most(), 8000, 0, 0)
	wantNoBest(t, ss(), 5, api.ErrInfeasible)
	wantNoBest(t, ss(), 8000, api.ErrInfeasible)
	strict := changed(func(s *policy.Season) { s.Limit = 9 })
	wantBest(t, strict, 0, 0, 0)
	wantNoBest(t, strict, 1, api.ErrInfeasible)
}

func TestBestHasTheLeastDelayOfTheFewestClosings(t *testing.T) {
	// One closing keeps a or b, c needs none.
	s := policy.Season{Limit: 30, Ships: list(9, 4), Members: []policy.Member{
		member("a", 1, list(0, 0), list(40, 20), list(0, 0)), member("b", 1, list(1, 0), list(20, 40), list(0, 0)), member("c", 1, list(2, 0), list(20, 20), list(0, 0)),
	}}
	wantBest(t, s, 1, 0, 0)
	wantBest(t, s, 2, 1, 4)
	wantBest(t, s, 3, 2, 13)
	// More closings with less delay are no better.
	s = policy.Season{Limit: 30, Ships: list(0, 0, 1000), Members: []policy.Member{
		member("a", 1, list(0, 0, 0), list(40, 40, 20), list(0, 0, 0)), member("b", 1, list(1, 0, 0), list(20, 20, 40), list(0, 0, 0)),
	}}
	wantBest(t, s, 1, 1, 1000)
	wantBest(t, s, 2, 3, 1000)
	// A greater weight with fewer closings is better than the needed one alone.
	s.Members[1].Weight, s.Members[0].Weight = 3, 2
	wantBest(t, s, 2, 3, 3000)
	wantBest(t, s, 4, 7, 3000)
}

func TestErrorsOfBest(t *testing.T) {
	for _, need := range badNeeds {
		wantNoBest(t, ss(), need, api.ErrRange)
		for _, bad := range badSeasons() {
			wantNoBest(t, bad.s, need, bad.e)
		}
	}
}

// TestSearchesByDefinition compares with all policies of small seasons.
func TestSearchesByDefinition(t *testing.T) {
	r := rand.New(rand.NewSource(94))
	searched, ties := 0, 0
	for range 600 {
		s := randomSeason(r, 5, 5, 3)
		s.Ships = randomNumbers(r, len(s.Ships), 3)
		if len(histories(s)) > 9 {
			continue
		}
		searched++
		best := map[int]figures{}
		greatest := 0
		for _, p := range policies(s) {
			f := figuresOf(s, p)
			greatest = max(greatest, f.weight)
			for need := range f.weight + 1 {
				old, ok := best[need]
				if !ok || slices.Compare(list(f.closings, f.delay), list(old.closings, old.delay)) < 0 {
					best[need] = f
				}
				if ok && f.closings == old.closings && f.delay != old.delay {
					ties++
				}
			}
		}
		wantMost(t, s, greatest)
		for need := range greatest + 1 {
			wantBest(t, s, need, best[need].closings, best[need].delay)
		}
		wantNoBest(t, s, greatest+1, api.ErrInfeasible)
	}
	if searched < 300 || ties < 30 {
		t.Errorf("only %d seasons are searched, with %d ties", searched, ties)
	}
}

// TestSearchesOfOneGroup compares with all closings if all members have the same classes.
func TestSearchesOfOneGroup(t *testing.T) {
	r := rand.New(rand.NewSource(95))
	for range 200 {
		s := randomSeason(r, 6, 8, 1)
		greatest := 0
		best := map[int][]int{}
		for _, closed := range everyClosings(len(s.Ships)) {
			weight, numbers := 0, list(0, 0)
			for i, m := range s.Members {
				if isKept(s, i, closed) {
					weight += m.Weight
				}
			}
			for tide, is := range closed {
				if is {
					numbers[0] += total(s)
					numbers[1] += total(s) * s.Ships[tide]
				}
			}
			greatest = max(greatest, weight)
			for need := range weight + 1 {
				if old, ok := best[need]; !ok || slices.Compare(numbers, old) < 0 {
					best[need] = numbers
				}
			}
		}
		wantMost(t, s, greatest)
		for need := range greatest + 1 {
			wantBest(t, s, need, best[need][0], best[need][1])
		}
		wantNoBest(t, s, greatest+1, api.ErrInfeasible)
	}
}

// TestSearchesOfMembersApart compares with all choices of members if each of them has closings of its own.
func TestSearchesOfMembersApart(t *testing.T) {
	r := rand.New(rand.NewSource(96))
	for range 100 {
		s := randomSeason(r, 6, 8, 10)
		for i := range s.Members {
			s.Members[i].Classes[0] = 9 - i
		}
		best := map[int][]int{0: {0, 0}}
		greatest := 0
		for i, m := range s.Members {
			numbers, ok := cheapest(s, i)
			if !ok {
				continue
			}
			for weight := greatest; weight >= 0; weight-- {
				old, found := best[weight]
				if !found {
					continue
				}
				more := list(old[0]+numbers[0], old[1]+numbers[1])
				if other, ok := best[weight+m.Weight]; !ok || slices.Compare(more, other) < 0 {
					best[weight+m.Weight] = more
				}
			}
			greatest += m.Weight
		}
		wantMost(t, s, greatest)
		wanted := best[greatest]
		for need := greatest; need >= 0; need-- {
			if numbers, ok := best[need]; ok && slices.Compare(numbers, wanted) < 0 {
				wanted = numbers
			}
			wantBest(t, s, need, wanted[0], wanted[1])
		}
		wantNoBest(t, s, greatest+1, api.ErrInfeasible)
	}
}

// cheapest returns the least numbers with which a member is kept, and whether it can be.
func cheapest(s policy.Season, i int) ([]int, bool) {
	var out []int
	for _, closed := range everyClosings(len(s.Ships)) {
		numbers := list(0, 0)
		for tide, is := range closed {
			if is {
				numbers[0] += s.Members[i].Weight
				numbers[1] += s.Members[i].Weight * s.Ships[tide]
			}
		}
		if isKept(s, i, closed) && (out == nil || slices.Compare(numbers, out) < 0) {
			out = numbers
		}
	}
	return out, out != nil
}
