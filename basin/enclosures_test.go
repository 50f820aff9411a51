package basin_test

import (
	"math/rand"
	"slices"
	"testing"

	"tideway/api"
	"tideway/basin"
)

// P4.3

func TestWithin(t *testing.T) {
	r := tides(8, 16, true, intervals(0, 50, 3, 3)...)
	for i, row := range []struct {
		c    basin.Condition
		want bool
	}{
		{condition(8, true, 0, 3), true}, {condition(16, true, 50, 3), true}, {condition(12, true, 25, 3), true},
		{condition(12, false, 25, 3), false}, {condition(7, true, 25, 3), false}, {condition(17, true, 25, 3), false}, {condition(12, true, 51, 3), false}, {condition(12, true, 25, 2), false}, {condition(12, true, 25, 4), false}, {condition(12, true, 51, 4), false},
	} {
		is, e := basin.Within(bb(), r, row.c)
		want(t, "Within", []any{i, is, e}, []any{i, row.want, api.OK})
	}
	is, e := basin.Within(bb(), tides(-5, -5, false, intervals(1, 1, 2, 2)...), condition(-5, false, 1, 2))
	want(t, "Within", []any{is, e}, []any{true, api.OK})
	is, e = basin.Within(bb(), tides(-5, -5, false, intervals(1, 1, 2, 2)...), condition(-5, false, 0, 2))
	want(t, "Within", []any{is, e}, []any{false, api.OK})
	for _, bad := range badConditions() {
		is, e := basin.Within(bb(), r, bad.c)
		wantError(t, "Within", is, e, bad.e)
	}
	for _, bad := range badRanges() {
		for _, c := range []basin.Condition{{}, condition(1025, true), condition(8, true, 0, 3)} {
			is, e := basin.Within(bb(), bad.r, c)
			wantError(t, "Within", is, e, bad.e)
		}
	}
	for _, bad := range badBasins() {
		is, e := basin.Within(bad.b, tides(5, 4, true), condition(1025, true))
		wantError(t, "Within", is, e, bad.e)
	}
}

func TestCorner(t *testing.T) {
	l := []basin.Range{tides(8, 16, true, intervals(0, 50, 3, 4)...), tides(-3, 5, false, intervals(1, 2, 7, 7)...)}
	lower, e := basin.Corner(bb(), l, false)
	want(t, "Corner", []any{lower, e}, []any{[]basin.Condition{condition(8, true, 0, 3), condition(-3, false, 1, 7)}, api.OK})
	upper, e := basin.Corner(bb(), l, true)
	want(t, "Corner", []any{upper, e}, []any{[]basin.Condition{condition(16, true, 50, 4), condition(5, false, 2, 7)}, api.OK})
	for _, side := range []bool{false, true} {
		none, e := basin.Corner(bb(), nil, side)
		want(t, "Corner", []any{none, e}, []any{[]basin.Condition{}, api.OK})
		many, e := basin.Corner(bb(), slices.Repeat(l, 48), side)
		want(t, "Corner", []any{len(many), e}, []any{96, api.OK})
		for _, bad := range badRangeLists() {
			out, e := basin.Corner(bb(), bad.l, side)
			wantError(t, "Corner", out, e, bad.e)
		}
		for _, bad := range badBasins() {
			out, e := basin.Corner(bad.b, make([]basin.Range, 97), side)
			wantError(t, "Corner", out, e, bad.e)
		}
	}
}

// storm is the range of example 5.
func storm() basin.Range {
	return tides(8, 16, false, intervals(0, 50, 0, 0)...)
}

func TestEnclose(t *testing.T) {
	v := intervals(100, 110, 20, 20)
	out, e := basin.Enclose(bb(), v, []basin.Range{storm()}) // example 5
	want(t, "Enclose", []any{out, e}, []any{[][]api.Interval{intervals(100, 160, 20, 20)}, api.OK})
	out, e = basin.Enclose(bb(), v, []basin.Range{storm(), storm(), tides(-4, 4, true, intervals(0, 1, 5, 9)...)})
	want(t, "Enclose", []any{out, e}, []any{[][]api.Interval{intervals(100, 160, 20, 20), intervals(100, 198, 20, 20), intervals(35, 126, 20, 20)}, api.OK})
	out, e = basin.Enclose(bb(), v, nil)
	want(t, "Enclose", []any{out, e}, []any{[][]api.Interval{}, api.OK})
	out, e = basin.Enclose(bb(), intervals(0, 100000000, 0, 0), []basin.Range{tides(0, 0, false, intervals(0, 0, 0, 0)...)})
	want(t, "Enclose", []any{out, e}, []any{[][]api.Interval{intervals(0, 75000030, 0, 0)}, api.OK})
}

func TestSafe(t *testing.T) {
	rain := func(n, m int) basin.Range { return tides(0, 0, false, intervals(0, n, 0, m)...) }
	for i, row := range []struct {
		b    basin.Basin
		v    []api.Interval
		l    []basin.Range
		safe bool
	}{
		{bb(), intervals(100, 110, 20, 20), []basin.Range{storm(), storm()}, true}, {bb(), intervals(100, 110, 20, 20), slices.Repeat([]basin.Range{storm()}, 3), false},
		{withLinks(), intervals(0, 9, 0, 4), []basin.Range{rain(200, 40)}, true}, {withLinks(), intervals(0, 9, 0, 4), []basin.Range{rain(201, 40)}, false}, {withLinks(), intervals(0, 9, 0, 4), []basin.Range{rain(200, 41)}, false}, {withLinks(), intervals(0, 10, 0, 4), []basin.Range{rain(200, 40)}, false},
		{withLinks(), intervals(0, 9, 0, 4), []basin.Range{rain(100, 0), rain(100, 20), rain(0, 20)}, true}, {withLinks(), intervals(0, 9, 0, 4), []basin.Range{rain(100, 0), rain(100, 20), rain(0, 21)}, false},
		{withLinks(), intervals(9999, 9999, 0, 0), nil, true}, {withLinks(), intervals(9999, 9999, 0, 0), []basin.Range{rain(0, 0)}, false},
		{deep(link("outfall", 1, -1, 3, 1)), intervals(0, 0, 0, 5000), []basin.Range{rain(0, 0)}, true},
	} {
		safe, e := basin.Safe(row.b, row.v, row.l)
		want(t, "Safe", []any{i, safe, e}, []any{i, row.safe, api.OK})
	}
}

// locked is a lake that the sea fills through a barrier, by the steps in which it is open.
func locked(tide, limit int) (basin.Basin, []basin.Range) {
	b := basin.Basin{Nodes: []basin.Node{node("lake", 10, limit)}, Links: []basin.Link{link("barrier", -1, 0, 0, 4)}}
	return b, slices.Repeat([]basin.Range{tides(tide, tide, false, intervals(0, 3)...)}, 6)
}

func TestLatest(t *testing.T) {
	const most = 100000000
	// With the barrier open the volumes are 42, 73, 97, 115, 128 and 138 at most, and 3 more in each step with a closed one.
	b, l := locked(16, 6)
	for limit, wanted := range []int{0, 0, 0, 0, 0, 1, 1, 1, 2, 2, 3, 3, 4, 6} {
		b.Nodes[0].Limit = limit
		k, e := basin.Latest(b, intervals(0, 0), l)
		if limit == 0 {
			want(t, "Latest", []any{k, e}, []any{0, api.ErrInfeasible})
			continue
		}
		want(t, "Latest", []any{limit, k, e}, []any{limit, wanted, api.OK})
	}
	k, e := basin.Latest(b, intervals(0, most), nil)
	want(t, "Latest of no ranges", []any{k, e}, []any{0, api.OK})
	// Here the barrier lets the water out: it is open throughout.
	b, l = locked(-9, 1)
	for i := range l {
		l[i].Inflow = intervals(0, 9)
	}
	k, e = basin.Latest(b, intervals(0, 19), l)
	want(t, "Latest of an ebb", []any{k, e}, []any{6, api.OK})
	safe, e := basin.Safe(b, intervals(0, 19), l)
	want(t, "Safe with a closed barrier", []any{safe, e}, []any{false, api.OK})
	// Whatever the ranges say of the barrier.
	for i := range l {
		l[i].Open = i%2 == 0
	}
	k, e = basin.Latest(b, intervals(0, 19), l)
	want(t, "Latest of an ebb", []any{k, e}, []any{6, api.OK})
}

func TestLatestMayBeInTheMiddle(t *testing.T) {
	// The ebb is needed in the first two steps, the flood of the last two is not permitted.
	b := basin.Basin{Nodes: []basin.Node{node("lake", 10, 2)}, Links: []basin.Link{link("barrier", -1, 0, 0, 1)}}
	out, in := tides(-9, 0, false, intervals(0, 20)...), tides(3, 9, true, intervals(0, 1)...)
	for i, row := range []struct {
		l []basin.Range
		k int
		e api.Errno
	}{
		{[]basin.Range{out, out, in, in}, 2, api.OK}, {[]basin.Range{out, out}, 2, api.OK}, {[]basin.Range{out, in}, 1, api.OK}, {[]basin.Range{out, in, out, out}, 0, api.ErrInfeasible}, {[]basin.Range{in, in}, 0, api.OK}, {[]basin.Range{out, out, in, out}, 2, api.OK}, {[]basin.Range{out, out, in, out, out}, 0, api.ErrInfeasible},
	} {
		k, e := basin.Latest(b, intervals(0, 4), row.l)
		want(t, "Latest", []any{i, k, e}, []any{i, row.k, row.e})
	}
}

func TestEnclosuresThatAreTooLarge(t *testing.T) {
	for i, x := range larges() {
		wanted := api.OK
		if x.bad {
			wanted = api.ErrLarge
		}
		v, l := points(x.v), pointRanges(x.l)
		out, e := basin.Enclose(x.b, v, l)
		wantError(t, "Enclose", out, e, wanted)
		want(t, "Enclose", []any{i, len(out) == len(l)}, []any{i, !x.bad})
		safe, e := basin.Safe(x.b, v, l)
		wantError(t, "Safe", safe, e, wanted)
		// From 0 on, the upper ends alone are too large.
		for k := range v {
			v[k].Low = 0
		}
		out, e = basin.Enclose(x.b, v, l)
		wantError(t, "Enclose", out, e, wanted)
		safe, e = basin.Safe(x.b, v, l)
		wantError(t, "Safe", safe, e, wanted)
	}
}

// points returns the intervals with these numbers alone.
func points(v []int) []api.Interval {
	var out []api.Interval
	for _, n := range v {
		out = append(out, interval(n, n))
	}
	return out
}

// pointRanges returns the ranges that permit these conditions alone.
func pointRanges(l []basin.Condition) []basin.Range {
	var out []basin.Range
	for _, c := range l {
		out = append(out, tides(c.Tide, c.Tide, c.Open, points(c.Inflow)...))
	}
	return out
}

// brook is a basin with eight barriers to its first node, each with a weir to the second one: 8192000 pass in a step with the tide 1024.
func brook(n int) (basin.Basin, []api.Interval, []basin.Range) {
	b := basin.Basin{Nodes: []basin.Node{node("a", 1000, 1024), node("b", 1000, 1024)}}
	for range 8 {
		b.Links = append(b.Links, link("barrier", -1, 0, 0, 1), link("weir", 0, 1, 0, 1))
	}
	return b, intervals(0, 0, 0, 0), slices.Repeat([]basin.Range{tides(1024, 1024, true, intervals(0, 0, 0, 0)...)}, n)
}

func TestAllStepsAreMade(t *testing.T) {
	for n, wanted := range map[int]api.Errno{1: api.OK, 12: api.OK, 13: api.ErrLarge, 96: api.ErrLarge} {
		b, v, l := brook(n)
		safe, e := basin.Safe(b, v, l)
		want(t, "Safe", []any{n, safe, e}, []any{n, false, wanted})
		k, e := basin.Latest(b, v, l)
		want(t, "Latest", []any{n, k, e}, []any{n, 0, wanted})
		upper, _ := basin.Corner(b, l, true)
		tick, node, e := basin.First(b, []int{0, 0}, upper)
		if wanted == api.OK {
			want(t, "First", []any{n, tick, node, e}, []any{n, 0, 1, api.OK})
		} else {
			want(t, "First", []any{n, tick, node, e}, []any{n, 0, 0, api.ErrLarge})
		}
	}
}

func TestLatestAsksFromTheGreatestNumberDown(t *testing.T) {
	const most = 100000000
	flood := tides(1024, 1024, false, intervals(0, 0, 0, 0)...)
	// If the barrier is open, what comes in is too large for b for a moment; if it is closed, all is safe.
	b := basin.Basin{Nodes: []basin.Node{node("a", 1000, 1024), node("b", 1, 1024)}, Links: []basin.Link{
		link("barrier", -1, 0, 0, 1), link("weir", 0, 1, 0, 1), link("outfall", 1, -1, 0, 1),
	}}
	v := intervals(0, 0, 0, most)
	k, e := basin.Latest(b, v, []basin.Range{flood})
	want(t, "Latest", []any{k, e}, []any{0, api.ErrLarge})
	safe, e := basin.Safe(b, v, []basin.Range{flood})
	want(t, "Safe", []any{safe, e}, []any{true, api.OK})
	// If the barrier is open, all is safe: that a would have too much with a closed one is not asked.
	ebb := tides(-1024, -1024, false, intervals(0, 0, 0, 0)...)
	b.Links = []basin.Link{link("barrier", -1, 0, 0, 1), link("weir", 1, 0, 0, 1)}
	v = intervals(0, most, 0, 5)
	k, e = basin.Latest(b, v, []basin.Range{ebb})
	want(t, "Latest", []any{k, e}, []any{1, api.OK})
	safe, e = basin.Safe(b, v, []basin.Range{ebb})
	want(t, "Safe", []any{safe, e}, []any{false, api.ErrLarge})
	// If the barrier is open, a gets 9000, which its limit does not permit: the next number is asked.
	b.Nodes[0].Limit = 8
	b.Links[1].At = 1
	k, e = basin.Latest(b, intervals(0, most, 0, 9001), []basin.Range{ebb})
	want(t, "Latest", []any{k, e}, []any{0, api.ErrLarge})
}

func TestErrorsOfEnclosures(t *testing.T) {
	check := func(b basin.Basin, v []api.Interval, l []basin.Range, wanted api.Errno) {
		t.Helper()
		out, e := basin.Enclose(b, v, l)
		wantError(t, "Enclose", out, e, wanted)
		safe, e := basin.Safe(b, v, l)
		wantError(t, "Safe", safe, e, wanted)
		k, e := basin.Latest(b, v, l)
		wantError(t, "Latest", k, e, wanted)
	}
	for _, bad := range badRangeLists() {
		check(bb(), intervals(0, 0, 0, 0), bad.l, bad.e)
		check(bb(), intervals(0, 100000000, 0, 100000000), bad.l, bad.e)
	}
	for _, bad := range badPairs(100000000) {
		check(bb(), bad.l, nil, bad.e)
		check(bb(), bad.l, make([]basin.Range, 97), bad.e)
		check(bb(), bad.l, []basin.Range{{Tide: interval(5, 4)}}, bad.e)
	}
	for _, bad := range badBasins() {
		check(bad.b, intervals(5, 4), make([]basin.Range, 97), bad.e)
	}
}

// randomEnclosed returns a basin with two nodes, intervals of its volumes, and ranges, all of them small.
func randomEnclosed(r *rand.Rand) (basin.Basin, []api.Interval, []basin.Range) {
	b := randomBasin(r, 4)
	for len(b.Nodes) != 2 {
		b = randomBasin(r, 4)
	}
	v := randomIntervals(r, 2, 99, 3)
	if r.Intn(4) == 0 {
		low := 100000000 - r.Intn(40)
		v[r.Intn(2)] = interval(low, min(low+r.Intn(4), 100000000))
	}
	return b, v, randomRanges(r, b, 1+r.Intn(3), 2)
}

func TestEnclosuresByDefinition(t *testing.T) {
	r := rand.New(rand.NewSource(63))
	tooLarge, safes := 0, 0
	for range 300 {
		b, v, l := randomEnclosed(r)
		sets, fits := reached(b, v, l)
		out, e := basin.Enclose(b, v, l)
		safe, wrong := basin.Safe(b, v, l)
		if !fits {
			tooLarge++
			want(t, "Enclose and Safe", []any{out, e, safe, wrong}, []any{[][]api.Interval{}, api.ErrLarge, false, api.ErrLarge})
			continue
		}
		var wanted [][]api.Interval
		allBelow := true
		for _, set := range sets {
			low, high := [2]int{1 << 30, 1 << 30}, [2]int{}
			for v := range set {
				for i, volume := range v {
					low[i], high[i] = min(low[i], volume), max(high[i], volume)
					allBelow = allBelow && down(volume, b.Nodes[i].Area) <= b.Nodes[i].Limit
				}
			}
			wanted = append(wanted, intervals(low[0], high[0], low[1], high[1]))
		}
		if allBelow {
			safes++
		}
		want(t, "Enclose and Safe", []any{out, e, safe, wrong}, []any{wanted, api.OK, allBelow, api.OK})
	}
	if tooLarge < 20 || safes < 20 {
		t.Errorf("only %d are too large, %d safe", tooLarge, safes)
	}
}

func TestLatestByDefinition(t *testing.T) {
	r := rand.New(rand.NewSource(64))
	found := map[int]int{}
	for range 2000 {
		b := randomBasin(r, 4)
		n := 1 + r.Intn(5)
		v, l := points(randomNumbers(r, len(b.Nodes), 40)), randomRanges(r, b, n, 5)
		for i := range b.Nodes {
			b.Nodes[i].Area, b.Nodes[i].Limit = 4+r.Intn(12), 10+r.Intn(25)
		}
		if r.Intn(9) == 0 {
			v = points(randomVolumes(r, b))
		}
		k, e := basin.Latest(b, v, l)
		wanted, wrong := latest(b, v, l)
		want(t, "Latest", []any{k, e}, []any{wanted, wrong})
		switch {
		case e != api.OK:
			found[-int(e)]++
		case k == n:
			found[2]++
		default:
			found[min(k, 1)]++
		}
	}
	for _, what := range []int{0, 1, 2, -int(api.ErrLarge), -int(api.ErrInfeasible)} {
		if found[what] < 20 {
			t.Errorf("only %d of the kind %d", found[what], what)
		}
	}
}

// latest asks for each number from the greatest one down, with all upper ends.
func latest(b basin.Basin, v []api.Interval, l []basin.Range) (int, api.Errno) {
	var start []int
	for _, x := range v {
		start = append(start, x.High)
	}
	for k := len(l); k >= 0; k-- {
		var upper []basin.Condition
		for i, x := range l {
			c := condition(x.Tide.High, i < k)
			for _, inflow := range x.Inflow {
				c.Inflow = append(c.Inflow, inflow.High)
			}
			upper = append(upper, c)
		}
		run, fits := ran(b, start, upper)
		if !fits {
			return 0, api.ErrLarge
		}
		if tick, _ := highest(b, run); tick < 0 {
			return k, api.OK
		}
	}
	return 0, api.ErrInfeasible
}
