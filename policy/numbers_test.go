package policy_test

import (
	"math/rand"
	"slices"
	"testing"

	"tideway/api"
	"tideway/policy"
)

// P5.2

func TestNumbersOfPolicies(t *testing.T) {
	strict := changed(func(s *policy.Season) { s.Limit = 9 })
	even := changed(func(s *policy.Season) { s.Limit, s.Members[0].Weight = 20, 1000 })
	for _, row := range []struct {
		s               policy.Season
		p               policy.Policy
		kept            []int
		chance          api.Ratio
		closings, delay int
		regret          int
	}{
		{ss(), sp(false, true, false), list(0, 2), api.Ratio{Num: 3, Den: 4}, 2, 14, 0},   // example 2
		{ss(), sp(true, true, false), list(0, 1, 2), api.Ratio{Num: 1, Den: 1}, 6, 34, 3}, // examples 3 and 4
		{ss(), sp(false, false, false), list(2), api.Ratio{Num: 1, Den: 4}, 0, 0, 0},
		{ss(), sp(true, false, false), list(1, 2), api.Ratio{Num: 1, Den: 2}, 4, 20, 1},
		{ss(), sp(true, true, true), list(0, 2), api.Ratio{Num: 3, Den: 4}, 8, 48, 4},
		{ss(), sp(false, false, true), list(2), api.Ratio{Num: 1, Den: 4}, 2, 14, 1},
		{strict, sp(true, true, true), nil, api.Ratio{Num: 0, Den: 1}, 8, 48, 0}, {strict, sp(false, false, false), nil, api.Ratio{Num: 0, Den: 1}, 0, 0, 0},
		// A peak at the limit is not above it.
		{even, sp(true, true, false), list(0, 1, 2), api.Ratio{Num: 1, Den: 1}, 2002, 12010, 1001}, {even, sp(true, true, true), list(0, 2), api.Ratio{Num: 1001, Den: 1002}, 2004, 12024, 1002}, {even, sp(true, false, false), list(1, 2), api.Ratio{Num: 1, Den: 501}, 1002, 5010, 1},
	} {
		kept, e := policy.Kept(row.s, row.p)
		want(t, "Kept", []any{kept, e}, []any{row.kept, api.OK})
		chance, e := policy.Chance(row.s, row.p)
		want(t, "Chance", []any{chance, e}, []any{row.chance, api.OK})
		closings, e := policy.Closings(row.s, row.p)
		want(t, "Closings", []any{closings, e}, []any{row.closings, api.OK})
		delay, e := policy.Delay(row.s, row.p)
		want(t, "Delay", []any{delay, e}, []any{row.delay, api.OK})
		regret, e := policy.Regret(row.s, row.p)
		want(t, "Regret", []any{regret, e}, []any{row.regret, api.OK})
	}
}

func TestTheGreatestNumbers(t *testing.T) {
	s := most()
	for i := range s.Members {
		s.Members[i].Inflow = make([]int, 6)
	}
	p, _ := policy.Always(s, true)
	closings, e := policy.Closings(s, p)
	want(t, "Closings", []any{closings, e}, []any{48000, api.OK})
	delay, e := policy.Delay(s, p)
	want(t, "Delay", []any{delay, e}, []any{48000000, api.OK})
	regret, e := policy.Regret(s, p)
	want(t, "Regret", []any{regret, e}, []any{48000, api.OK})
	weight, e := policy.Weight(s, list(0, 1, 2, 3, 4, 5, 6, 7))
	want(t, "Weight", []any{weight, e}, []any{8000, api.OK})
}

func TestErrorsOfNumbersOfPolicies(t *testing.T) {
	check := func(s policy.Season, p policy.Policy, wanted api.Errno) {
		t.Helper()
		kept, e := policy.Kept(s, p)
		wantError(t, "Kept", kept, e, wanted)
		chance, e := policy.Chance(s, p)
		wantError(t, "Chance", chance, e, wanted)
		closings, e := policy.Closings(s, p)
		wantError(t, "Closings", closings, e, wanted)
		delay, e := policy.Delay(s, p)
		wantError(t, "Delay", delay, e, wanted)
		regret, e := policy.Regret(s, p)
		wantError(t, "Regret", regret, e, wanted)
	}
	for _, bad := range badPolicies() {
		check(ss(), bad.p, bad.e)
	}
	for _, bad := range badSeasons() {
		check(bad.s, policy.Policy{}, bad.e)
		check(bad.s, sp(true, true, true), bad.e)
	}
}

func TestWeight(t *testing.T) {
	for _, row := range []struct {
		l    []int
		want int
	}{
		{nil, 0}, {list(0), 2}, {list(1), 1}, {list(0, 2), 3}, {list(1, 2), 2}, {list(0, 1, 2), 4},
	} {
		weight, e := policy.Weight(ss(), row.l)
		want(t, "Weight", []any{weight, e}, []any{row.want, api.OK})
	}
	for _, bad := range badLists() {
		weight, e := policy.Weight(ss(), bad.l)
		wantError(t, "Weight", weight, e, bad.e)
	}
	for _, bad := range badSeasons() {
		weight, e := policy.Weight(bad.s, list(-1))
		wantError(t, "Weight", weight, e, bad.e)
	}
}

// single is a season with one member, and a limit.
func single(limit int, outside, inflow []int) policy.Season {
	n := len(outside)
	return policy.Season{Limit: limit, Ships: make([]int, n), Members: []policy.Member{member("a", 1, make([]int, n), outside, inflow)}}
}

func TestAlone(t *testing.T) {
	for _, row := range []struct {
		s      policy.Season
		i      int
		closed []bool
		count  int
	}{
		{ss(), 0, []bool{false, true}, 1}, {ss(), 1, []bool{true, false}, 1}, {ss(), 2, []bool{false, false}, 0}, // example 4
		// Fewer closed tides come first, also if they are closed sooner.
		{single(30, list(40, 20, 20), list(10, 10, 10)), 0, []bool{true, false, false}, 1},
		{single(0, list(0, 1, 1, 0, 1, 0), list(0, 0, 0, 0, 0, 0)), 0, []bool{false, true, true, false, true, false}, 3},
		{single(1024, slices.Repeat(list(1024), 6), make([]int, 6)), 0, make([]bool, 6), 0},
		{single(30, list(40, 40), list(10, 20)), 0, []bool{true, true}, 2},
	} {
		closed, n, e := policy.Alone(row.s, row.i)
		want(t, "Alone", []any{closed, n, e}, []any{row.closed, row.count, api.OK})
	}
}

func TestDoomed(t *testing.T) {
	for _, row := range []struct {
		s    policy.Season
		i    int
		tide int
	}{
		{with(1, func(m *policy.Member) { m.Outside, m.Inflow = list(40, 40), list(20, 20) }), 1, 1}, // example 5
		{single(30, list(31), list(31)), 0, 0}, {single(0, list(1, 0), list(1, 0)), 0, 0}, {single(30, list(40, 20, 40), list(10, 40, 40)), 0, 2},
		{single(30, slices.Repeat(list(31), 6), list(5, 5, 5, 5, 5, 6)), 0, 5}, {single(30, slices.Repeat(list(31), 6), list(15, 15, 1, 1, 1, 1)), 0, 2},
		// Each tide can be passed, but not both of them.
		{single(30, list(31, 31), list(30, 1)), 0, 1},
	} {
		tide, e := policy.Doomed(row.s, row.i)
		want(t, "Doomed", []any{tide, e}, []any{row.tide, api.OK})
		closed, n, e := policy.Alone(row.s, row.i)
		wantError(t, "Alone", closed, e, api.ErrInfeasible)
		want(t, "the number beside an error", n, 0)
	}
	for _, s := range []policy.Season{ss(), single(30, list(31, 31), list(30, 0)), single(30, slices.Repeat(list(31), 6), slices.Repeat(list(5), 6))} {
		for i := range s.Members {
			tide, e := policy.Doomed(s, i)
			wantError(t, "Doomed", tide, e, api.ErrNone)
		}
	}
}

func TestErrorsOfAloneAndDoomed(t *testing.T) {
	check := func(s policy.Season, i int, wanted api.Errno) {
		t.Helper()
		closed, n, e := policy.Alone(s, i)
		wantError(t, "Alone", closed, e, wanted)
		want(t, "the number beside an error", n, 0)
		tide, e := policy.Doomed(s, i)
		wantError(t, "Doomed", tide, e, wanted)
	}
	for _, i := range badNumbers {
		check(ss(), i, api.ErrUnknown)
	}
	for _, bad := range badSeasons() {
		check(bad.s, -1, bad.e)
		check(bad.s, 0, bad.e)
	}
}

func TestNumbersByDefinition(t *testing.T) {
	r := rand.New(rand.NewSource(92))
	kept := 0
	for range 500 {
		s := randomSeason(r, 6, 8, 4)
		p := randomPolicy(r, s)
		f := figuresOf(s, p)
		kept += len(f.kept)
		gotKept, _ := policy.Kept(s, p)
		weight, _ := policy.Weight(s, f.kept)
		chance, e := policy.Chance(s, p)
		want(t, "Chance", []any{chance.Num * total(s), chance.Den > 0, e}, []any{f.weight * chance.Den, true, api.OK})
		closings, _ := policy.Closings(s, p)
		delay, _ := policy.Delay(s, p)
		want(t, "numbers", figures{gotKept, weight, closings, delay}, f)
		regret := 0
		for _, i := range f.kept {
			first, _ := alone(s, i)
			regret += s.Members[i].Weight * (count(closedBy(s, p, i)) - count(first))
		}
		got, e := policy.Regret(s, p)
		want(t, "Regret", []any{got, e}, []any{regret, api.OK})
	}
	if kept < 500 {
		t.Errorf("only %d members are kept", kept)
	}
}

func TestMembersByDefinition(t *testing.T) {
	r := rand.New(rand.NewSource(93))
	lost := 0
	for range 1000 {
		s := randomSeason(r, 6, 8, 4)
		for i := range s.Members {
			wanted, found := alone(s, i)
			closed, n, e := policy.Alone(s, i)
			want(t, "Alone", []any{closed, n, e == api.OK}, []any{wanted, count(wanted), found})
			tide, e := policy.Doomed(s, i)
			if found {
				wantError(t, "Doomed", tide, e, api.ErrNone)
			} else {
				lost++
				want(t, "Doomed", []any{tide, e}, []any{doomed(s, i), api.OK})
			}
		}
	}
	if lost < 500 {
		t.Errorf("only %d members are doomed", lost)
	}
}
