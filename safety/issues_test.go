package safety_test

import (
	"fmt"
	"math/rand"
	"testing"

	"tideway/api"
	"tideway/safety"
)

// P9.2

// one is a season with one gate, from 0 to 50, as in the chapter's example 2.
func one() []safety.Season {
	return seasons(season(0, 50, 1))
}

// free is B without locks.
func free() safety.Permit {
	return permit("b", "y", "south", "", 15, 25)
}

func TestIssue(t *testing.T) {
	for i, row := range []struct {
		l []safety.Permit
		s []safety.Season
		p safety.Permit
		e api.Errno
	}{
		{nil, one(), pa(), api.OK}, {permits(pa()), one(), pc(), api.OK}, {permits(pa()), one(), pb(), api.ErrLock}, {permits(pa()), one(), free(), api.ErrOver}, // example 2
		{permits(pa()), seasons(season(0, 50, 2)), free(), api.OK}, {permits(pa(), pc()), one(), permit("b", "z", "south", "", 25, 35), api.OK},
		// The same gate does not count twice.
		{permits(pa()), one(), permit("b", "y", "north", "", 15, 25), api.OK}, {permits(pa()), one(), permit("b", "y", "north", "north", 15, 25), api.ErrLock},
		{permits(pa()), one(), permit("a", "y", "south", "", 40, 45), api.ErrTwice}, {permits(pa()), one(), permit("b", "x", "south", "", 19, 25), api.ErrOverlap}, {permits(pa()), one(), permit("b", "x", "south", "brake", 20, 25), api.OK}, {permits(pa()), one(), permit("b", "y", "brake", "", 15, 25), api.ErrLock},
		// The first one that excludes it decides, and goes before the number of gates.
		{permits(pa(), permit("b", "y", "north", "", 12, 18)), nil, permit("b", "x", "south", "", 10, 11), api.ErrOverlap}, {permits(permit("b", "y", "north", "", 12, 18), pa()), nil, permit("b", "x", "south", "", 10, 11), api.ErrTwice}, {permits(pa(), pc()), nil, permit("c", "z", "brake", "", 15, 16), api.ErrLock}, {permits(pc(), pa()), nil, permit("c", "z", "brake", "", 15, 16), api.ErrTwice},
		{nil, nil, pa(), api.ErrOver}, {nil, seasons(season(0, 50, 0)), pa(), api.ErrOver},
	} {
		want(t, "Issue", []any{i, safety.Issue(row.l, row.s, row.p)}, []any{i, row.e})
	}
}

// A permit may be issued if there are not too many gates out at the first tick, at the last one, and at any other one.
func TestIssueByTheTicksOfSeasons(t *testing.T) {
	p := permit("p", "x", "g", "", 10, 20)
	other := func(from, to int) safety.Permit { return permit("q", "y", "h", "", from, to) }
	third := func(from, to int) safety.Permit { return permit("r", "z", "i", "", from, to) }
	wide := season(0, 100, 2)
	for i, row := range []struct {
		l []safety.Permit
		s []safety.Season
		e api.Errno
	}{
		{nil, seasons(season(10, 20, 1)), api.OK}, {nil, seasons(season(11, 20, 1)), api.ErrOver}, {nil, seasons(season(10, 19, 1)), api.ErrOver}, {nil, seasons(season(0, 15, 16), season(15, 30, 1)), api.OK}, {nil, seasons(season(0, 15, 16), season(16, 30, 16)), api.ErrOver}, {nil, seasons(season(0, 15, 16), season(15, 16, 0), season(16, 30, 16)), api.ErrOver}, {nil, seasons(season(0, 10, 0), season(10, 20, 1), season(20, 30, 0)), api.OK}, {nil, seasons(season(0, 10, 9), season(20, 30, 9)), api.ErrOver}, {nil, seasons(season(0, 1, 9)), api.ErrOver}, {nil, seasons(season(99, 100, 9)), api.ErrOver},
		{permits(other(0, 10)), seasons(season(0, 100, 1)), api.OK}, {permits(other(0, 11)), seasons(season(0, 100, 1)), api.ErrOver}, {permits(other(20, 30)), seasons(season(0, 100, 1)), api.OK}, {permits(other(19, 30)), seasons(season(0, 100, 1)), api.ErrOver}, {permits(other(14, 15)), seasons(season(0, 100, 1)), api.ErrOver}, {permits(other(0, 30)), seasons(season(0, 100, 1)), api.ErrOver},
		{permits(other(0, 14), third(14, 30)), seasons(wide), api.OK}, {permits(other(0, 15), third(14, 30)), seasons(wide), api.ErrOver}, {permits(other(0, 15), third(14, 30)), seasons(season(0, 14, 2), season(14, 15, 3), season(15, 20, 2)), api.OK}, {permits(other(0, 15), third(14, 30)), seasons(season(0, 14, 2), season(14, 15, 3), season(15, 19, 2)), api.ErrOver},
		// What is too much at other ticks does not matter.
		{permits(other(30, 40), third(35, 50)), seasons(season(0, 25, 1)), api.OK}, {permits(other(0, 10), third(0, 9)), seasons(season(10, 20, 1)), api.OK},
		// Others may be too many by themselves.
		{permits(other(15, 17), third(16, 18)), seasons(season(0, 100, 1)), api.ErrOver}, {permits(permit("q", "y", "g", "", 15, 17), permit("r", "z", "h", "", 15, 18)), seasons(season(0, 100, 1)), api.ErrOver},
	} {
		want(t, "Issue", []any{i, safety.Issue(row.l, row.s, p)}, []any{i, row.e})
	}
}

func TestIssueBesidesMany(t *testing.T) {
	s, p := seasons(season(0, 100, 16)), permit("x", "x", "g", "", 10, 20)
	want(t, "Issue besides 63", safety.Issue(crowd(63, 15), s, p), api.OK)
	want(t, "Issue of the gate 17", safety.Issue(crowd(63, 16), s, p), api.ErrOver)
	want(t, "Issue besides 64", safety.Issue(crowd(64, 15), s, p), api.ErrMany)
	want(t, "Issue of one of 64", safety.Issue(crowd(64, 15), nil, crowd(1, 1)[0]), api.ErrMany)
	tick, e := safety.Earliest(crowd(64, 15), s, p)
	wantError(t, "Earliest besides 64", tick, e, api.ErrMany)
	tick, e = safety.Earliest(crowd(63, 16), s, p)
	want(t, "Earliest", []any{tick, e}, []any{20, api.OK})
	want(t, "Valid of 64", safety.Valid(crowd(64, 16), s), api.OK)
	want(t, "Valid of 17 gates", safety.Valid(crowd(64, 17), s), api.ErrOver)
}

func TestValid(t *testing.T) {
	for i, row := range []struct {
		l []safety.Permit
		s []safety.Season
		e api.Errno
	}{
		{nil, nil, api.OK}, {nil, one(), api.OK}, {permits(pa(), pc()), one(), api.OK}, {permits(pc(), pa()), one(), api.OK}, {permits(pa(), pb(), pc()), one(), api.ErrLock}, {permits(pa(), pc(), free()), one(), api.ErrOver}, // example 2
		{permits(pa()), nil, api.ErrOver}, {permits(pc(), pa()), seasons(season(0, 39, 1)), api.ErrOver}, {permits(pa(), pc(), pa()), one(), api.ErrTwice}, {permits(pa(), permit("b", "x", "north", "", 0, 50)), one(), api.ErrOverlap},
		// The first one that may not be issued decides.
		{permits(pa(), free(), pa()), one(), api.ErrOver}, {permits(pa(), pa(), free()), one(), api.ErrTwice}, {permits(pa(), permit("d", "x", "north", "", 0, 50), pb()), one(), api.ErrOverlap}, {permits(pa(), pb(), permit("d", "x", "north", "", 0, 50)), one(), api.ErrLock},
	} {
		want(t, "Valid", []any{i, safety.Valid(row.l, row.s)}, []any{i, row.e})
	}
}

func TestEarliest(t *testing.T) {
	lasting := func(from, to int) []safety.Permit { return permits(permit("q", "y", "h", "", from, to)) }
	always := seasons(season(0, 100000, 1))
	for i, row := range []struct {
		l    []safety.Permit
		s    []safety.Season
		p    safety.Permit
		tick int
		e    api.Errno
	}{
		{permits(pa()), one(), pb(), 20, api.OK}, {permits(pa(), pc()), one(), pb(), 20, api.OK}, // example 2
		{nil, one(), pa(), 10, api.OK}, {permits(pa()), one(), free(), 20, api.OK}, {permits(pa(), pc()), one(), permit("d", "z", "north", "", 15, 30), 15, api.OK}, {permits(pa(), pc()), one(), permit("d", "z", "north", "", 15, 31), 0, api.ErrNone}, {permits(pa(), pc()), one(), permit("d", "z", "east", "", 15, 25), 20, api.OK}, {permits(pa(), pc()), one(), permit("d", "z", "east", "", 21, 31), 40, api.OK}, {permits(pa(), pc()), one(), permit("d", "z", "east", "", 21, 32), 0, api.ErrNone},
		// A permit begins at most 1000 ticks later.
		{lasting(0, 1100), always, permit("p", "x", "g", "", 100, 105), 1100, api.OK}, {lasting(0, 1101), always, permit("p", "x", "g", "", 100, 105), 0, api.ErrNone}, {lasting(0, 1101), always, permit("p", "x", "g", "", 101, 105), 1101, api.OK}, {lasting(0, 1000), always, permit("p", "x", "g", "", 0, 1), 1000, api.OK}, {lasting(0, 1001), always, permit("p", "x", "g", "", 0, 1), 0, api.ErrNone},
		// It ends at the last tick at the latest.
		{lasting(0, 99990), always, permit("p", "x", "g", "", 99000, 99010), 99990, api.OK}, {lasting(0, 99991), always, permit("p", "x", "g", "", 99000, 99010), 0, api.ErrNone}, {nil, always, permit("p", "x", "g", "", 99999, 100000), 99999, api.OK}, {lasting(99999, 100000), always, permit("p", "x", "g", "", 99999, 100000), 0, api.ErrNone}, {lasting(5, 6), always, permit("p", "x", "g", "", 0, 100000), 0, api.ErrNone},
		// Crews, things and gates that are locked are waited for; the name is used for good.
		{permits(pa()), one(), permit("b", "x", "north", "", 0, 11), 20, api.OK}, {permits(pa()), one(), permit("b", "y", "north", "brake", 0, 11), 20, api.OK}, {permits(pa()), one(), permit("b", "y", "north", "brake", 0, 10), 0, api.OK}, {permits(pa()), one(), permit("b", "y", "brake", "", 19, 20), 20, api.OK}, {permits(pa()), one(), permit("a", "y", "south", "", 40, 41), 0, api.ErrNone},
		// Seasons are waited for.
		{nil, seasons(season(30, 35, 1), season(40, 46, 1)), permit("p", "x", "g", "", 10, 16), 40, api.OK}, {nil, seasons(season(30, 35, 1), season(35, 46, 1)), permit("p", "x", "g", "", 10, 16), 30, api.OK}, {nil, seasons(season(30, 35, 1), season(40, 46, 0)), permit("p", "x", "g", "", 10, 16), 0, api.ErrNone}, {nil, nil, pa(), 0, api.ErrNone},
		// A gap between two others is long enough, or is not.
		{permits(pa(), permit("q", "z", "west", "", 30, 33)), one(), permit("p", "v", "g", "", 12, 22), 20, api.OK}, {permits(pa(), permit("q", "z", "west", "", 29, 33)), one(), permit("p", "v", "g", "", 12, 22), 33, api.OK},
	} {
		tick, e := safety.Earliest(row.l, row.s, row.p)
		want(t, "Earliest", []any{i, tick, e}, []any{i, row.tick, row.e})
	}
}

// The error of the seasons goes before that of the permit, this one before all others.
func TestErrorsOfIssues(t *testing.T) {
	check := func(l []safety.Permit, s []safety.Season, p safety.Permit, e api.Errno) {
		t.Helper()
		want(t, "Issue", safety.Issue(l, s, p), e)
		tick, got := safety.Earliest(l, s, p)
		wantError(t, "Earliest", tick, got, e)
	}
	for _, bad := range badSeasons() {
		for _, l := range [][]safety.Permit{nil, permits(pa(), pa()), crowd(64, 1)} {
			check(l, bad.x, safety.Permit{}, bad.e)
			check(l, bad.x, pa(), bad.e)
			want(t, "Valid", safety.Valid(l, bad.x), bad.e)
		}
	}
	for _, bad := range badPermits() {
		for _, l := range [][]safety.Permit{nil, permits(pa(), pb(), pc()), crowd(64, 1)} {
			check(l, one(), *bad.x, bad.e)
			check(l, nil, *bad.x, bad.e)
		}
	}
}

func TestIssuesByDefinition(t *testing.T) {
	r := rand.New(rand.NewSource(402))
	found := map[api.Errno]int{}
	for range 2 * rounds {
		l, s := randomPermits(r, 6), randomSeasons(r)
		p := randomPermit(r, fmt.Sprint("p", r.Intn(18)))
		want(t, "CheckSeasons", safety.CheckSeasons(s), api.OK)
		e := issue(l, s, p)
		found[e]++
		want(t, "Issue", safety.Issue(l, s, p), e)
		tick, none := 0, api.ErrNone
		// No permit may be issued behind the horizon and the last season.
		for moved := p; moved.Span.From < 2*horizon && none != api.OK; moved.Span.From, moved.Span.To = moved.Span.From+1, moved.Span.To+1 {
			if issue(l, s, moved) == api.OK {
				tick, none = moved.Span.From, api.OK
			}
		}
		got, e := safety.Earliest(l, s, p)
		want(t, "Earliest", []any{got, e}, []any{tick, none})
		want(t, "Valid", safety.Valid(l, s), valid(l, s))
	}
	for _, e := range []api.Errno{api.OK, api.ErrTwice, api.ErrOverlap, api.ErrLock, api.ErrOver} {
		if found[e] < rounds/20 {
			t.Errorf("the error %d of Issue is found %d times", e, found[e])
		}
	}
}

// valid returns the error of the first permit that may not be issued besides those before it.
func valid(l []safety.Permit, s []safety.Season) api.Errno {
	for i, p := range l {
		if e := issue(l[:i], s, p); e != api.OK {
			return e
		}
	}
	return api.OK
}
