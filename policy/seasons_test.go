package policy_test

import (
	"math/rand"
	"slices"
	"testing"

	"tideway/api"
	"tideway/policy"
)

// P5.1

func TestLimits(t *testing.T) {
	want(t, "limits", list(policy.MaxTides, policy.MaxMembers, policy.MaxClass, policy.MaxHeight, policy.MaxWeight, policy.MaxDelay), list(6, 8, 9, 1024, 1000, 1000))
}

func TestCheckSeason(t *testing.T) {
	least := member("A_9", 1, list(0), list(0), list(0))
	for _, s := range []policy.Season{
		ss(), most(), {Ships: list(0), Members: []policy.Member{least}}, {Limit: 1024, Ships: list(1000), Members: []policy.Member{least, member("a_9", 1000, list(9), list(1024), list(1024))}},
		{Ships: slices.Repeat(list(0), 6), Members: most().Members[:1]}, {Ships: list(0), Members: []policy.Member{member("open", 1, list(0), list(0), list(0)), member("close", 1, list(0), list(0), list(0))}},
	} {
		want(t, "CheckSeason", policy.CheckSeason(s), api.OK)
	}
	for i, bad := range badSeasons() {
		want(t, "CheckSeason", []any{i, policy.CheckSeason(bad.s)}, []any{i, bad.e})
	}
}

func TestHistories(t *testing.T) {
	apart := changed(func(s *policy.Season) {
		s.Members[0].Classes, s.Members[1].Classes, s.Members[2].Classes = list(9, 0), list(2, 5), list(2, 1)
	})
	for _, row := range []struct {
		s    policy.Season
		want [][]int
	}{
		{ss(), [][]int{{0}, {0, 0}, {0, 1}}}, // example 1
		{apart, [][]int{{2}, {9}, {2, 1}, {2, 5}, {9, 0}}},
		{most(), [][]int{{9}, {9, 9}, {9, 9, 9}, {9, 9, 9, 9}, {9, 9, 9, 9, 9}, {9, 9, 9, 9, 9, 9}}},
		{policy.Season{Ships: list(0), Members: []policy.Member{member("a", 1, list(0), list(0), list(0))}}, [][]int{{0}}},
		{with(1, func(m *policy.Member) { m.Classes = list(0, 0) }), [][]int{{0}, {0, 0}, {0, 1}}},
		{with(2, func(m *policy.Member) { m.Classes = list(1, 0) }), [][]int{{0}, {1}, {0, 0}, {0, 1}, {1, 0}}},
	} {
		l, e := policy.Histories(row.s)
		want(t, "Histories", []any{l, e}, []any{row.want, api.OK})
	}
	for _, bad := range badSeasons() {
		l, e := policy.Histories(bad.s)
		wantError(t, "Histories", l, e, bad.e)
	}
}

func TestAsManyHistoriesAsThereMayBe(t *testing.T) {
	s := most()
	for i := range s.Members {
		s.Members[i].Classes = slices.Repeat(list(8-i), 6)
	}
	l, e := policy.Histories(s)
	want(t, "Histories", []any{len(l), l[0], l[7], l[40], l[47], e}, []any{48, list(1), list(8), list(1, 1, 1, 1, 1, 1), list(8, 8, 8, 8, 8, 8), api.OK})
	p, e := policy.Always(s, true)
	want(t, "Always", []any{len(p.Rules), e, policy.CheckPolicy(s, p)}, []any{48, api.OK, api.OK})
}

func TestCheckPolicy(t *testing.T) {
	for _, p := range policies(ss()) {
		want(t, "CheckPolicy", policy.CheckPolicy(ss(), p), api.OK)
	}
	for i, bad := range badPolicies() {
		want(t, "CheckPolicy", []any{i, policy.CheckPolicy(ss(), bad.p)}, []any{i, bad.e})
	}
	for _, bad := range badSeasons() {
		want(t, "CheckPolicy", policy.CheckPolicy(bad.s, policy.Policy{}), bad.e)
		want(t, "CheckPolicy", policy.CheckPolicy(bad.s, sp(true, true, true)), bad.e)
	}
}

func TestAlways(t *testing.T) {
	for _, closed := range []bool{false, true} {
		p, e := policy.Always(ss(), closed)
		want(t, "Always", []any{p, e}, []any{sp(closed, closed, closed), api.OK})
		for _, bad := range badSeasons() {
			p, e := policy.Always(bad.s, closed)
			wantError(t, "Always", p, e, bad.e)
		}
	}
}

func TestFlip(t *testing.T) {
	before := sp(false, true, false)
	for i, wanted := range []policy.Policy{sp(true, true, false), sp(false, false, false), sp(false, true, true)} {
		p, e := policy.Flip(ss(), before, i)
		want(t, "Flip", []any{p, e}, []any{wanted, api.OK})
		again, e := policy.Flip(ss(), p, i)
		want(t, "Flip twice", []any{again, e}, []any{before, api.OK})
	}
	want(t, "the policy before", before, sp(false, true, false))
	for _, rule := range badNumbers {
		p, e := policy.Flip(ss(), before, rule)
		wantError(t, "Flip", p, e, api.ErrUnknown)
	}
	for _, bad := range badPolicies() {
		for _, rule := range list(0, -1) {
			p, e := policy.Flip(ss(), bad.p, rule)
			wantError(t, "Flip", p, e, bad.e)
		}
	}
	for _, bad := range badSeasons() {
		p, e := policy.Flip(bad.s, policy.Policy{}, -1)
		wantError(t, "Flip", p, e, bad.e)
	}
}

func TestPlay(t *testing.T) {
	for _, row := range []struct {
		p      policy.Policy
		member int
		want   policy.Course
	}{
		// Example 1.
		{sp(true, false, false), 0, policy.Course{Closed: []bool{true, false}, Peaks: list(10, 40)}}, {sp(true, false, false), 1, policy.Course{Closed: []bool{true, false}, Peaks: list(10, 20)}}, {sp(true, false, false), 2, policy.Course{Closed: []bool{true, false}, Peaks: list(10, 20)}},
		{sp(true, true, true), 0, policy.Course{Closed: []bool{true, true}, Peaks: list(10, 20)}}, {sp(true, true, true), 1, policy.Course{Closed: []bool{true, true}, Peaks: list(10, 35)}},
		// Example 2.
		{sp(false, true, false), 0, policy.Course{Closed: []bool{false, true}, Peaks: list(20, 10)}}, {sp(false, true, false), 1, policy.Course{Closed: []bool{false, false}, Peaks: list(40, 20)}}, {sp(false, true, false), 2, policy.Course{Closed: []bool{false, false}, Peaks: list(20, 20)}},
		// Example 3.
		{sp(true, true, false), 0, policy.Course{Closed: []bool{true, true}, Peaks: list(10, 20)}}, {sp(true, true, false), 1, policy.Course{Closed: []bool{true, false}, Peaks: list(10, 20)}}, {sp(true, true, false), 2, policy.Course{Closed: []bool{true, false}, Peaks: list(10, 20)}},
		{sp(false, false, true), 0, policy.Course{Closed: []bool{false, false}, Peaks: list(20, 40)}}, {sp(false, false, true), 1, policy.Course{Closed: []bool{false, true}, Peaks: list(40, 25)}},
	} {
		x, e := policy.Play(ss(), row.p, row.member)
		want(t, "Play", []any{x, e}, []any{row.want, api.OK})
	}
}

func TestErrorsOfPlay(t *testing.T) {
	for _, i := range badNumbers {
		x, e := policy.Play(ss(), sp(true, true, true), i)
		wantError(t, "Play", x, e, api.ErrUnknown)
		for _, bad := range badPolicies() {
			x, e := policy.Play(ss(), bad.p, i)
			wantError(t, "Play", x, e, bad.e)
		}
	}
	for _, bad := range badSeasons() {
		x, e := policy.Play(bad.s, policy.Policy{}, -1)
		wantError(t, "Play", x, e, bad.e)
	}
}

func TestFollow(t *testing.T) {
	long := policy.Season{Limit: 9, Ships: slices.Repeat(list(0), 6), Members: []policy.Member{member("a", 1, slices.Repeat(list(0), 6), list(1, 2, 3, 4, 5, 6), list(10, 20, 30, 40, 50, 60))}}
	for _, row := range []struct {
		s      policy.Season
		member int
		closed []bool
		want   []int
	}{
		{ss(), 0, []bool{true, false}, list(10, 40)}, {ss(), 1, []bool{true, true}, list(10, 35)}, {ss(), 1, []bool{false, true}, list(40, 25)}, {ss(), 2, []bool{false, false}, list(20, 20)},
		// An open tide leaves the level 0 behind.
		{long, 0, []bool{true, true, false, true, true, true}, list(10, 30, 3, 40, 90, 150)}, {long, 0, []bool{false, true, false, false, true, false}, list(1, 20, 3, 4, 50, 6)}, {long, 0, []bool{true, true, true, true, true, true}, list(10, 30, 60, 100, 150, 210)}, {long, 0, make([]bool, 6), list(1, 2, 3, 4, 5, 6)},
		{most(), 7, slices.Repeat([]bool{true}, 6), list(1024, 2048, 3072, 4096, 5120, 6144)},
	} {
		x, e := policy.Follow(row.s, row.member, row.closed)
		want(t, "Follow", []any{x, e}, []any{row.want, api.OK})
	}
}

func TestErrorsOfFollow(t *testing.T) {
	for _, closed := range [][]bool{nil, {true}, {true, true, true}, make([]bool, 7), make([]bool, 300)} {
		x, e := policy.Follow(ss(), 2, closed)
		wantError(t, "Follow", x, e, api.ErrShape)
		for _, i := range badNumbers {
			x, e := policy.Follow(ss(), i, closed)
			wantError(t, "Follow", x, e, api.ErrUnknown)
		}
		for _, bad := range badSeasons() {
			x, e := policy.Follow(bad.s, -1, closed)
			wantError(t, "Follow", x, e, bad.e)
		}
	}
}

func TestSeasonsByDefinition(t *testing.T) {
	r := rand.New(rand.NewSource(91))
	for range 500 {
		s := randomSeason(r, 6, 8, 10)
		l, e := policy.Histories(s)
		want(t, "Histories", []any{l, e}, []any{histories(s), api.OK})
		p := randomPolicy(r, s)
		want(t, "CheckPolicy", policy.CheckPolicy(s, p), api.OK)
		for i, m := range s.Members {
			closed := closedBy(s, p, i)
			x, e := policy.Play(s, p, i)
			want(t, "Play", []any{x, e}, []any{policy.Course{Closed: closed, Peaks: peaks(m, closed)}, api.OK})
			y, e := policy.Follow(s, i, closed)
			want(t, "Follow", []any{y, e}, []any{peaks(m, closed), api.OK})
		}
	}
}
