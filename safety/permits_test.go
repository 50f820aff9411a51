package safety_test

import (
	"fmt"
	"math/rand"
	"slices"
	"strings"
	"testing"

	"tideway/api"
	"tideway/safety"
)

// P9.1

func TestCheckPermit(t *testing.T) {
	for _, p := range []safety.Permit{
		pa(), pb(), pc(), withLocks(8), permit("a", "a", "a", "a", 0, 100000), permit(strings.Repeat("Z", 24), "x_9", "g", "A B a a0 aa b", 99999, 100000), permit("a", "x", "north", "north", 0, 1),
	} {
		want(t, "CheckPermit", safety.CheckPermit(p), api.OK)
	}
	for i, bad := range badPermits() {
		want(t, "CheckPermit", []any{i, safety.CheckPermit(*bad.x)}, []any{i, bad.e})
	}
}

func TestCheckPermits(t *testing.T) {
	for _, l := range [][]safety.Permit{nil, permits(pa(), pb(), pc()), permits(pa(), pa()), crowd(64, 1), crowd(64, 64)} {
		want(t, "CheckPermits", safety.CheckPermits(l), api.OK)
	}
	for i, bad := range badLists() {
		want(t, "CheckPermits", []any{i, safety.CheckPermits(bad.x)}, []any{i, bad.e})
	}
}

func TestCheckSeasons(t *testing.T) {
	for _, l := range [][]safety.Season{nil, manySeasons(8), seasons(season(0, 100000, 16)), seasons(season(3, 5, 0), season(5, 6, 16), season(99999, 100000, 1))} {
		want(t, "CheckSeasons", safety.CheckSeasons(l), api.OK)
	}
	for i, bad := range badSeasons() {
		want(t, "CheckSeasons", []any{i, safety.CheckSeasons(bad.x)}, []any{i, bad.e})
	}
}

// permitCalls calls all functions with permits, and with the same other arguments.
func permitCalls(l []safety.Permit, s []safety.Season, p safety.Permit, tick int) map[string][]any {
	out := map[string][]any{}
	clashes, e := safety.Clashes(l)
	out["Clashes"] = []any{clashes, e}
	gates, e := safety.Out(l, tick)
	out["Out"] = []any{gates, e}
	things, e := safety.Locked(l, tick)
	out["Locked"] = []any{things, e}
	first, most, e := safety.Busiest(l)
	out["Busiest"] = []any{[2]int{first, most}, e}
	earliest, e := safety.Earliest(l, s, p)
	out["Earliest"] = []any{earliest, e}
	out["Issue"] = []any{0, safety.Issue(l, s, p)}
	out["Valid"] = []any{0, safety.Valid(l, s)}
	return out
}

// The error of the permits goes before those of all other arguments.
func TestBadPermitsInAllFunctions(t *testing.T) {
	for _, bad := range badLists() {
		for _, tick := range []int{-1, 0} {
			results := permitCalls(bad.x, make([]safety.Season, tick+1), safety.Permit{}, tick)
			want(t, "calls", len(results), 7)
			for what, result := range results {
				wantError(t, what, result[0], result[1].(api.Errno), bad.e)
			}
		}
	}
}

func TestExclude(t *testing.T) {
	x := permit("x", "x", "g", "k", 10, 20)
	for _, row := range []struct {
		p    safety.Permit
		want string
	}{
		{permit("x", "x", "g", "k", 10, 20), "name"}, {permit("x", "y", "h", "", 50, 60), "name"}, {permit("x", "y", "h", "g", 0, 10), "name"},
		{permit("y", "x", "g", "k", 10, 20), "crew"}, {permit("y", "x", "h", "", 19, 30), "crew"}, {permit("y", "x", "h", "", 0, 11), "crew"}, {permit("y", "x", "h", "g", 14, 15), "crew"}, {permit("y", "x", "h", "", 0, 100), "crew"},
		{permit("y", "y", "g", "k", 10, 20), "lock"}, {permit("y", "y", "h", "a k z", 0, 11), "lock"}, {permit("y", "y", "h", "g k", 19, 20), "lock"}, {permit("y", "y", "k", "g k", 5, 50), "lock"},
		{permit("y", "y", "h", "g", 10, 20), "gate"}, {permit("y", "y", "k", "", 10, 20), "gate"}, {permit("y", "y", "k", "g", 0, 11), "gate"}, {permit("y", "y", "g", "g", 19, 99), "gate"},
		// No tick in common.
		{permit("y", "x", "g", "k", 0, 10), ""}, {permit("y", "x", "k", "g k", 20, 30), ""}, {permit("y", "x", "k", "g k", 40, 50), ""}, {permit("y", "x", "g", "k", 0, 1), ""},
		// Nothing else in common. Several crews may work at a gate.
		{permit("y", "y", "g", "", 10, 20), ""}, {permit("y", "y", "h", "a h y", 10, 20), ""}, {permit("X", "X", "G", "K", 10, 20), ""}, {permit("g", "k", "y", "x", 10, 20), ""},
	} {
		for i, pair := range [][2]safety.Permit{{x, row.p}, {row.p, x}} {
			got, e := safety.Exclude(pair[0], pair[1])
			want(t, fmt.Sprint("Exclude of ", row.p), []any{i, got, e}, []any{i, row.want, api.OK})
		}
	}
	for pair, wanted := range map[[2]int]string{{0, 1}: "lock", {0, 2}: "", {1, 2}: ""} { // example 1
		l := permits(pa(), pb(), pc())
		got, e := safety.Exclude(l[pair[0]], l[pair[1]])
		want(t, "Exclude", []any{got, e}, []any{wanted, api.OK})
	}
}

func TestErrorsOfExclude(t *testing.T) {
	for _, bad := range badPermits() {
		for _, row := range []struct {
			a, b safety.Permit
			e    api.Errno
		}{{*bad.x, pa(), bad.e}, {pa(), *bad.x, bad.e}, {*bad.x, safety.Permit{}, bad.e}, {withLocks(9), *bad.x, api.ErrMany}, {permit("a", "x", "g", "", 5, 5), *bad.x, api.ErrSpan}} {
			got, e := safety.Exclude(row.a, row.b)
			wantError(t, "Exclude", got, e, row.e)
		}
	}
}

func clash(first, second int, reason string) safety.Clash {
	return safety.Clash{First: first, Second: second, Reason: reason}
}

func TestClashes(t *testing.T) {
	for _, row := range []struct {
		l    []safety.Permit
		want []safety.Clash
	}{
		{nil, nil}, {permits(pa()), nil}, {permits(pa(), pc()), nil}, {crowd(64, 2), nil},
		{permits(pa(), pb(), pc()), []safety.Clash{clash(0, 1, "lock")}}, // example 1
		{permits(pb(), pc(), pa()), []safety.Clash{clash(0, 2, "lock")}},
		{permits(pa(), pa(), pa()), []safety.Clash{clash(0, 1, "name"), clash(0, 2, "name"), clash(1, 2, "name")}},
		{permits(permit("a", "x", "g", "", 0, 9), permit("b", "y", "h", "k", 0, 9), permit("c", "z", "k", "", 8, 9), permit("d", "x", "g", "h", 8, 20)), []safety.Clash{clash(0, 3, "crew"), clash(1, 2, "gate"), clash(1, 3, "gate")}},
	} {
		got, e := safety.Clashes(row.l)
		want(t, "Clashes", []any{got, e}, []any{row.want, api.OK})
	}
}

func TestOutAndLocked(t *testing.T) {
	l := permits(pa(), pb(), pc(), permit("d", "z", "east", "", 16, 17), permit("e", "w", "north", "axle chain", 12, 17))
	for _, row := range []struct {
		tick        int
		out, locked string
	}{
		{0, "", ""}, {9, "", ""}, {10, "north", "brake"}, {12, "north", "axle brake chain"}, {15, "north south", "axle brake chain north"}, {16, "east north south", "axle brake chain north"}, {17, "north south", "brake north"}, {19, "north south", "brake north"}, {20, "south", "brake north"}, {24, "south", "brake north"}, {25, "", ""}, {30, "south", ""}, {39, "south", ""}, {40, "", ""}, {99999, "", ""}, {100000, "", ""},
	} {
		out, e := safety.Out(l, row.tick)
		want(t, fmt.Sprint("Out at ", row.tick), []any{out, e}, []any{names(row.out), api.OK})
		locked, e := safety.Locked(l, row.tick)
		want(t, fmt.Sprint("Locked at ", row.tick), []any{locked, e}, []any{names(row.locked), api.OK})
	}
	out, e := safety.Out(permits(pa(), pb(), pc()), 16) // example 1
	want(t, "Out", []any{out, e}, []any{names("north south"), api.OK})
	locked, e := safety.Locked(permits(pa(), pb(), pc()), 16)
	want(t, "Locked", []any{locked, e}, []any{names("brake north"), api.OK})
	last, _ := safety.Out(permits(permit("a", "x", "g", "", 99999, 100000)), 99999)
	want(t, "Out at the last tick", last, names("g"))
	// Bytes are compared.
	out, _ = safety.Out(permits(permit("p", "a", "b", "", 0, 1), permit("q", "b", "a1", "", 0, 1), permit("r", "c", "B", "", 0, 1), permit("s", "d", "a", "", 0, 1)), 0)
	want(t, "Out", out, names("B a a1 b"))
}

func TestErrorsOfOutAndLocked(t *testing.T) {
	for _, tick := range outside(0, 100000) {
		for _, l := range [][]safety.Permit{nil, permits(pa(), pb())} {
			out, e := safety.Out(l, tick)
			wantError(t, "Out", out, e, api.ErrRange)
			locked, e := safety.Locked(l, tick)
			wantError(t, "Locked", locked, e, api.ErrRange)
		}
	}
}

func TestBusiest(t *testing.T) {
	for _, row := range []struct {
		l          []safety.Permit
		tick, most int
	}{
		{permits(pa()), 10, 1}, {permits(pa(), pb(), pc()), 15, 2}, {permits(pc(), pb(), pa()), 15, 2}, {permits(pc(), pa()), 10, 1}, {crowd(64, 64), 10, 64}, {crowd(64, 3), 10, 3},
		{permits(permit("a", "x", "g", "", 0, 1)), 0, 1}, {permits(permit("a", "x", "g", "", 99999, 100000)), 99999, 1},
		// Each gate counts once.
		{permits(pc(), permit("d", "z", "south", "", 35, 40), permit("e", "w", "south", "", 35, 40), pa()), 10, 1}, {permits(pc(), permit("d", "z", "south", "", 35, 40), permit("e", "w", "north", "", 38, 40)), 38, 2},
		// One gate comes back when the other one goes out.
		{permits(permit("a", "x", "g", "", 5, 9), permit("b", "x", "h", "", 9, 12)), 5, 1},
		// The same number again.
		{permits(permit("c", "z", "g", "", 20, 29), permit("d", "w", "h", "", 24, 29), permit("a", "x", "g", "", 5, 9), permit("b", "y", "h", "", 7, 12)), 7, 2},
	} {
		tick, most, e := safety.Busiest(row.l)
		want(t, "Busiest", []any{tick, most, e}, []any{row.tick, row.most, api.OK})
	}
	tick, most, e := safety.Busiest(nil)
	wantError(t, "Busiest", [2]int{tick, most}, e, api.ErrEmpty)
}

func TestPermitsByDefinition(t *testing.T) {
	r := rand.New(rand.NewSource(401))
	found := map[string]int{}
	for range rounds {
		l := randomPermits(r, 10)
		want(t, "CheckPermits", safety.CheckPermits(l), api.OK)
		var clashes []safety.Clash
		for first := range l {
			for second := range l {
				reason := exclude(l[first], l[second])
				got, e := safety.Exclude(l[first], l[second])
				want(t, "Exclude", []any{got, e}, []any{reason, api.OK})
				if first < second && reason != "" {
					clashes = append(clashes, clash(first, second, reason))
					found[reason]++
				}
			}
		}
		got, e := safety.Clashes(l)
		want(t, "Clashes", []any{got, e}, []any{clashes, api.OK})
		var counts []int
		for tick := range horizon + 1 {
			out, e := safety.Out(l, tick)
			want(t, "Out", []any{out, e}, []any{outAt(l, tick), api.OK})
			locked, e := safety.Locked(l, tick)
			want(t, "Locked", []any{locked, e}, []any{lockedAt(l, tick), api.OK})
			counts = append(counts, len(outAt(l, tick)))
		}
		if len(l) > 0 {
			most := slices.Max(counts)
			tick, gates, e := safety.Busiest(l)
			want(t, "Busiest", []any{tick, gates, e}, []any{slices.Index(counts, most), most, api.OK})
		}
	}
	for _, reason := range names("name crew lock gate") {
		if found[reason] < rounds/3 {
			t.Errorf("permits exclude each other by %s %d times", reason, found[reason])
		}
	}
}
