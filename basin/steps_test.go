package basin_test

import (
	"math"
	"math/rand"
	"slices"
	"testing"

	"tideway/api"
	"tideway/basin"
)

// P4.2

// deep is a basin with these links between the nodes a and b, with the areas 10 and 1.
func deep(l ...basin.Link) basin.Basin {
	return basin.Basin{Nodes: []basin.Node{node("a", 10, 1024), node("b", 1, 1024)}, Links: l}
}

func TestFlowsOfKinds(t *testing.T) {
	for i, row := range []struct {
		l    basin.Link
		v    []int
		tide int
		open bool
		want int
	}{
		{link("barrier", -1, 0, 0, 2), []int{120, 0}, 16, true, 20}, {link("barrier", -1, 0, 0, 2), []int{120, 0}, 16, false, 0}, {link("barrier", -1, 0, 0, 2), []int{121, 0}, 16, true, 19}, {link("barrier", -1, 0, 0, 2), []int{160, 0}, 16, true, 0},
		{link("barrier", -1, 0, 0, 2), []int{161, 0}, 16, true, -1}, {link("barrier", -1, 0, 0, 2), []int{163, 0}, 16, true, -2}, {link("barrier", -1, 0, 0, 1), []int{163, 0}, 16, true, -3}, {link("barrier", -1, 0, 0, 1000), []int{161, 0}, 16, true, -1}, {link("barrier", -1, 0, 0, 1000), []int{161, 0}, 16, false, 0},
		{link("barrier", -1, 0, 0, 1), []int{50, 0}, -3, true, -50}, {link("barrier", -1, 0, 0, 2), []int{50, 0}, -3, true, -40}, {link("barrier", -1, 0, 0, 2), []int{30, 0}, -3, true, -30}, {link("barrier", -1, 0, 0, 2), []int{29, 0}, -3, true, -29}, {link("barrier", -1, 0, 0, 2), []int{31, 0}, -3, true, -31}, {link("barrier", -1, 0, 0, 2), []int{33, 0}, -3, true, -32}, {link("barrier", -1, 0, 0, 1), []int{0, 0}, -1024, true, 0}, {link("barrier", -1, 1, 0, 3), []int{0, 7}, 17, true, 3},
		{link("leak", -1, 0, 0, 2), []int{120, 0}, 16, false, 20}, {link("leak", -1, 0, 0, 2), []int{120, 0}, 16, true, 20}, {link("leak", -1, 0, 0, 2), []int{121, 0}, 16, false, 19}, {link("leak", -1, 0, 0, 2), []int{161, 0}, 16, true, 0}, {link("leak", -1, 0, 0, 2), []int{1000, 0}, -16, true, 0}, {link("leak", -1, 1, 0, 3), []int{0, 7}, 17, false, 3},
		{link("outfall", 0, -1, 12, 4), []int{155, 0}, 8, false, 8}, {link("outfall", 0, -1, 12, 4), []int{155, 0}, 8, true, 8}, {link("outfall", 0, -1, 12, 4), []int{155, 0}, 12, true, 8}, {link("outfall", 0, -1, 12, 4), []int{155, 0}, 13, true, 6}, {link("outfall", 0, -1, 12, 4), []int{150, 0}, 16, true, 0}, {link("outfall", 0, -1, 12, 4), []int{119, 0}, -1024, true, 0}, {link("outfall", 0, -1, 0, 1), []int{119, 0}, -1024, true, 119}, {link("outfall", 1, -1, 2, 3), []int{0, 13}, 1, true, 3},
		{link("pump", 0, 1, 4, 10), []int{75, 0}, 99, true, 10}, {link("pump", 0, 1, 4, 10), []int{50, 0}, 0, true, 10}, {link("pump", 0, 1, 4, 10), []int{49, 0}, 0, false, 9}, {link("pump", 0, 1, 4, 10), []int{40, 0}, 0, true, 0}, {link("pump", 0, 1, 4, 10), []int{39, 0}, 0, true, 0}, {link("pump", 1, 0, 4, 1000), []int{0, 900}, 0, true, 896},
		{link("weir", 0, 1, 4, 10), []int{75, 0}, 99, true, 3}, {link("weir", 0, 1, 4, 10), []int{49, 0}, 0, true, 0}, {link("weir", 0, 1, 4, 10), []int{50, 0}, 0, false, 1}, {link("weir", 0, 1, 4, 10), []int{29, 0}, 0, true, 0}, {link("weir", 1, 0, 4, 1), []int{0, 9}, 0, true, 5},
	} {
		b, c := deep(row.l), condition(row.tide, row.open, 0, 0)
		flows, e := basin.Flows(b, row.v, c)
		want(t, "Flows", []any{i, flows, e}, []any{i, []int{row.want}, api.OK})
		wanted := slices.Clone(row.v)
		if row.l.From >= 0 {
			wanted[row.l.From] -= row.want
		}
		if row.l.To >= 0 {
			wanted[row.l.To] += row.want
		}
		v, e := basin.Step(b, row.v, c)
		want(t, "Step", []any{i, v, e}, []any{i, wanted, api.OK})
	}
}

func TestStepsOfTheChapter(t *testing.T) {
	first, second := condition(16, true, 20, 5), condition(8, false, 0, 0)
	flows, e := basin.Flows(bb(), []int{100, 30}, first) // example 2
	want(t, "Flows", []any{flows, e}, []any{[]int{20, 10, 0}, api.OK})
	v, e := basin.Step(bb(), []int{100, 30}, first)
	want(t, "Step", []any{v, e}, []any{[]int{150, 25}, api.OK})
	flows, e = basin.Flows(bb(), v, second) // example 3
	want(t, "Flows", []any{flows, e}, []any{[]int{0, 5, 8}, api.OK})
	v, e = basin.Step(bb(), v, second)
	want(t, "Step", []any{v, e}, []any{[]int{147, 20}, api.OK})
	both := []basin.Condition{first, second}
	run, e := basin.Run(bb(), []int{100, 30}, both)
	want(t, "Run", []any{run, e}, []any{[][]int{{150, 25}, {147, 20}}, api.OK})
	balance, e := basin.Account(bb(), []int{100, 30}, both)
	want(t, "Account", []any{balance, e}, []any{basin.Balance{Rivers: 25, Sea: 20, Out: 8}, api.OK})
	river := condition(16, false, 50, 0) // example 4
	run, e = basin.Run(bb(), []int{100, 20}, slices.Repeat([]basin.Condition{river}, 3))
	want(t, "Run", []any{run, e}, []any{[][]int{{150, 20}, {190, 20}, {220, 20}}, api.OK})
	for level, wanted := range map[int]int{0: 0, 10: 0, 11: 1, 15: 1, 16: 2, 19: 2, 20: 3, 22: 3} {
		n, e := basin.Until(bb(), []int{100, 20}, river, 0, level)
		want(t, "Until", []any{level, n, e}, []any{level, wanted, api.OK})
	}
}

func TestNoLinksAndNoSteps(t *testing.T) {
	b := withLinks()
	flows, e := basin.Flows(b, []int{1, 2}, condition(0, true, 3, 4))
	want(t, "Flows", []any{flows, e}, []any{[]int{}, api.OK})
	v, e := basin.Step(b, []int{1, 2}, condition(0, true, 3, 4))
	want(t, "Step", []any{v, e}, []any{[]int{4, 6}, api.OK})
	run, e := basin.Run(bb(), []int{100, 30}, nil)
	want(t, "Run", []any{run, e}, []any{[][]int{}, api.OK})
	balance, e := basin.Account(bb(), []int{100, 30}, nil)
	want(t, "Account", []any{balance, e}, []any{basin.Balance{}, api.OK})
	tick, n, e := basin.First(bb(), []int{100000, 30}, nil)
	want(t, "First", []any{tick, n, e}, []any{0, 0, api.ErrNone})
}

func TestAccount(t *testing.T) {
	b := deep(link("barrier", -1, 0, 0, 1), link("leak", -1, 1, 0, 2), link("weir", 0, 1, 5, 2), link("outfall", 1, -1, 3, 1))
	for i, row := range []struct {
		v    []int
		l    []basin.Condition
		want basin.Balance
	}{
		{[]int{100, 0}, []basin.Condition{condition(4, true, 0, 0)}, basin.Balance{Sea: 2, Out: 60}},
		{[]int{100, 0}, []basin.Condition{condition(4, false, 1, 2)}, basin.Balance{Rivers: 3, Sea: 1, Out: 24}},
		{[]int{0, 0}, []basin.Condition{condition(4, true, 1, 2), condition(-9, true, 1, 2)}, basin.Balance{Rivers: 6, Sea: 40, Out: 43}},
		{[]int{40, 9}, []basin.Condition{condition(2, true, 0, 0), condition(5, true, 0, 0)}, basin.Balance{Sea: 31, Out: 26}},
		{[]int{0, 0}, []basin.Condition{condition(0, false, 100000, 100000)}, basin.Balance{Rivers: 200000, Out: 149972}},
	} {
		balance, e := basin.Account(b, row.v, row.l)
		want(t, "Account", []any{i, balance, e}, []any{i, row.want, api.OK})
	}
}

func TestFirst(t *testing.T) {
	rain := func(n, m int) basin.Condition { return condition(0, false, n, m) }
	for i, row := range []struct {
		v          []int
		l          []basin.Condition
		tick, node int
		e          api.Errno
	}{
		{[]int{0, 0}, []basin.Condition{rain(209, 44)}, 0, 0, api.ErrNone}, {[]int{0, 0}, []basin.Condition{rain(210, 44)}, 0, 0, api.OK}, {[]int{0, 0}, []basin.Condition{rain(209, 45)}, 0, 1, api.OK}, {[]int{0, 0}, []basin.Condition{rain(210, 45)}, 0, 0, api.OK},
		{[]int{0, 0}, []basin.Condition{rain(1, 1), rain(1, 1), rain(1, 43), rain(1000, 0)}, 2, 1, api.OK}, {[]int{0, 0}, []basin.Condition{rain(0, 44), rain(300, 0), rain(0, 1)}, 1, 0, api.OK}, {[]int{9999, 9999}, []basin.Condition{rain(0, 0)}, 0, 0, api.OK}, {[]int{9999, 9999}, nil, 0, 0, api.ErrNone},
		{[]int{0, 0}, append(slices.Repeat([]basin.Condition{rain(0, 0)}, 95), rain(0, 45)), 95, 1, api.OK},
	} {
		tick, n, e := basin.First(withLinks(), row.v, row.l)
		want(t, "First", []any{i, tick, n, e}, []any{i, row.tick, row.node, row.e})
	}
	// What is above a limit before the first step does not count if the step takes it away.
	tick, n, e := basin.First(deep(link("outfall", 1, -1, 3, 1)), []int{0, 5000}, []basin.Condition{condition(1, false, 0, 0)})
	want(t, "First", []any{tick, n, e}, []any{0, 0, api.ErrNone})
}

func TestUntil(t *testing.T) {
	b := deep(link("pump", 0, 1, 0, 1))
	for i, row := range []struct {
		v           []int
		c           basin.Condition
		node, level int
		n           int
		e           api.Errno
	}{
		{[]int{500, 0}, condition(0, true, 0, 0), 1, 0, 0, api.OK}, {[]int{500, 0}, condition(0, true, 0, 0), 1, 1, 1, api.OK}, {[]int{500, 0}, condition(0, true, 0, 0), 1, 95, 95, api.OK}, {[]int{500, 0}, condition(0, true, 0, 0), 1, 96, 96, api.OK}, {[]int{500, 0}, condition(0, true, 0, 0), 1, 97, 0, api.ErrNone}, {[]int{500, 1}, condition(0, true, 0, 0), 1, 97, 96, api.OK}, {[]int{500, 0}, condition(0, true, 0, 0), 1, 1024, 0, api.ErrNone},
		{[]int{0, 0}, condition(0, true, 11, 0), 0, 1, 1, api.OK}, {[]int{0, 0}, condition(0, true, 10, 0), 0, 1, 2, api.OK}, {[]int{10240, 0}, condition(0, true, 0, 0), 0, 1024, 0, api.OK}, {[]int{10239, 0}, condition(0, true, 0, 0), 0, 1024, 0, api.ErrNone}, {[]int{10239, 0}, condition(0, true, 2, 0), 0, 1024, 1, api.OK},
		// A level that falls is there at once, or not at all.
		{[]int{100, 0}, condition(0, true, 0, 0), 0, 10, 0, api.OK}, {[]int{99, 0}, condition(0, true, 0, 0), 0, 10, 0, api.ErrNone},
	} {
		n, e := basin.Until(b, row.v, row.c, row.node, row.level)
		want(t, "Until", []any{i, n, e}, []any{i, row.n, row.e})
	}
}

func TestUntilMakesNoFurtherSteps(t *testing.T) {
	const most = 100000000
	fill := condition(0, true, 100000, 0)
	for i, row := range []struct {
		v           []int
		c           basin.Condition
		node, level int
		n           int
		e           api.Errno
	}{
		{[]int{most - 96*100000, 0}, fill, 1, 1, 0, api.ErrNone}, {[]int{most - 96*100000 + 1, 0}, fill, 1, 1, 0, api.ErrLarge},
		{[]int{most, 0}, fill, 1, 0, 0, api.OK}, {[]int{most, 0}, fill, 1, 1, 0, api.ErrLarge}, {[]int{most, 0}, fill, 0, 1024, 0, api.OK},
		{[]int{most - 100000, 0}, condition(0, true, 100000, 5), 1, 5, 1, api.OK}, {[]int{most - 100000, 0}, condition(0, true, 100000, 5), 1, 6, 0, api.ErrLarge},
	} {
		n, e := basin.Until(deep(), row.v, row.c, row.node, row.level)
		want(t, "Until", []any{i, n, e}, []any{i, row.n, row.e})
	}
}

// large is a start and conditions, and whether a volume is above MaxVolume.
type large struct {
	b   basin.Basin
	v   []int
	l   []basin.Condition
	bad bool
}

func larges() []large {
	const most = 100000000
	empty := deep(link("outfall", 0, -1, 0, 1), link("weir", 1, 0, 0, 1))
	full := deep(link("weir", 0, 1, 0, 1), link("outfall", 1, -1, 0, 1))
	wide := basin.Basin{Nodes: []basin.Node{node("a", 1000, 1024), node("b", 1000, 1024)}, Links: []basin.Link{link("barrier", -1, 0, 0, 1), link("weir", 0, 1, 0, 1)}}
	calm, flood := condition(0, false, 0, 0), condition(1024, true, 0, 0)
	return []large{
		{deep(), []int{most, most}, []basin.Condition{calm}, false}, {deep(), []int{most - 7, 0}, []basin.Condition{condition(0, false, 7, 0)}, false}, {deep(), []int{most - 7, 0}, []basin.Condition{condition(0, false, 8, 0)}, true}, {deep(), []int{0, most - 7}, []basin.Condition{condition(0, false, 0, 8)}, true},
		// What stands above for a moment stands above: behind an inflow, and behind a link.
		{empty, []int{most, 0}, []basin.Condition{condition(0, false, 1, 0)}, true}, {empty, []int{most, 0}, []basin.Condition{condition(0, false, 0, 0)}, false}, {full, []int{5, most - 5}, []basin.Condition{calm}, false}, {full, []int{6, most - 5}, []basin.Condition{calm}, true}, {full, []int{5, most - 5}, []basin.Condition{condition(0, false, 1, 0)}, true}, {full, []int{5, most - 5}, []basin.Condition{calm, condition(0, false, 100000, 100000)}, false},
		{wide, []int{0, most - 1024000}, []basin.Condition{flood}, false}, {wide, []int{0, most - 1024000 + 1}, []basin.Condition{flood}, true}, {wide, []int{0, most - 2*1024000}, []basin.Condition{flood, calm, flood}, false}, {wide, []int{0, most - 2*1024000 + 1}, []basin.Condition{flood, calm, flood}, true}, {wide, []int{0, most}, []basin.Condition{calm, calm}, false},
		{deep(), []int{0, most - 96*100000}, slices.Repeat([]basin.Condition{condition(0, false, 0, 100000)}, 96), false}, {deep(), []int{0, most - 96*100000 + 1}, slices.Repeat([]basin.Condition{condition(0, false, 0, 100000)}, 96), true},
	}
}

func TestVolumesThatAreTooLarge(t *testing.T) {
	for i, x := range larges() {
		wanted := api.OK
		if x.bad {
			wanted = api.ErrLarge
		}
		run, e := basin.Run(x.b, x.v, x.l)
		wantError(t, "Run", run, e, wanted)
		want(t, "Run", []any{i, len(run) == len(x.l)}, []any{i, !x.bad})
		balance, e := basin.Account(x.b, x.v, x.l)
		wantError(t, "Account", balance, e, wanted)
		if len(x.l) == 1 {
			flows, e := basin.Flows(x.b, x.v, x.l[0])
			wantError(t, "Flows", flows, e, wanted)
			v, e := basin.Step(x.b, x.v, x.l[0])
			wantError(t, "Step", v, e, wanted)
		}
		if x.bad {
			tick, n, e := basin.First(x.b, x.v, x.l)
			want(t, "First", []any{i, tick, n, e}, []any{i, 0, 0, api.ErrLarge})
		}
	}
}

func TestErrorsOfSteps(t *testing.T) {
	good := condition(16, true, 20, 5)
	check := func(b basin.Basin, v []int, l []basin.Condition, wanted api.Errno) {
		t.Helper()
		run, e := basin.Run(b, v, l)
		wantError(t, "Run", run, e, wanted)
		balance, e := basin.Account(b, v, l)
		wantError(t, "Account", balance, e, wanted)
		tick, n, e := basin.First(b, v, l)
		want(t, "First", []any{tick, n, e}, []any{0, 0, wanted})
	}
	checkOne := func(b basin.Basin, v []int, c basin.Condition, node, level int, wanted api.Errno) {
		t.Helper()
		flows, e := basin.Flows(b, v, c)
		wantError(t, "Flows", flows, e, wanted)
		v2, e := basin.Step(b, v, c)
		wantError(t, "Step", v2, e, wanted)
		n, e := basin.Until(b, v, c, node, level)
		wantError(t, "Until", n, e, wanted)
	}
	for _, bad := range badConditionLists() {
		check(bb(), []int{0, 0}, bad.l, bad.e)
		check(bb(), []int{100000000, 100000000}, bad.l, bad.e)
	}
	for _, bad := range badConditions() {
		checkOne(bb(), []int{0, 0}, bad.c, -1, -1, bad.e)
		checkOne(bb(), []int{100000000, 100000000}, bad.c, 0, 5, bad.e)
	}
	for _, bad := range badLists(100000000) {
		check(bb(), bad.l, nil, bad.e)
		check(bb(), bad.l, make([]basin.Condition, 97), bad.e)
		checkOne(bb(), bad.l, good, 2, 1025, bad.e)
		checkOne(bb(), bad.l, basin.Condition{}, 0, 0, bad.e)
	}
	for _, bad := range badBasins() {
		check(bad.b, []int{-1}, make([]basin.Condition, 97), bad.e)
		checkOne(bad.b, []int{-1}, basin.Condition{Tide: 1025}, -1, -1, bad.e)
	}
}

func TestErrorsOfUntil(t *testing.T) {
	const most = 100000000
	river := condition(16, false, 50, 0)
	for _, row := range []struct {
		v           []int
		node, level int
		e           api.Errno
	}{
		{[]int{100, 20}, -1, 0, api.ErrUnknown}, {[]int{100, 20}, 2, 0, api.ErrUnknown}, {[]int{100, 20}, math.MinInt, -1, api.ErrUnknown}, {[]int{100, 20}, math.MaxInt, 1025, api.ErrUnknown}, {[]int{most, most}, 2, 5, api.ErrUnknown},
		{[]int{100, 20}, 0, -1, api.ErrRange}, {[]int{100, 20}, 0, 1025, api.ErrRange}, {[]int{100, 20}, 1, math.MinInt, api.ErrRange}, {[]int{100, 20}, 1, math.MaxInt, api.ErrRange}, {[]int{most, most}, 0, 1025, api.ErrRange},
	} {
		n, e := basin.Until(bb(), row.v, river, row.node, row.level)
		wantError(t, "Until", n, e, row.e)
	}
}

func TestStepsByDefinition(t *testing.T) {
	r := rand.New(rand.NewSource(62))
	tooLarge, above := 0, 0
	for range 3000 {
		b := randomBasin(r, 8)
		v, l := randomVolumes(r, b), randomConditions(r, b, r.Intn(6))
		wanted, fits := ran(b, v, l)
		run, e := basin.Run(b, v, l)
		tick, n, wrong := basin.First(b, v, l)
		if !fits {
			tooLarge++
			want(t, "Run and First", []any{run, e, tick, n, wrong}, []any{[]int{}, api.ErrLarge, 0, 0, api.ErrLarge})
			continue
		}
		want(t, "Run", []any{run, e}, []any{wanted, api.OK})
		if at, node := highest(b, wanted); at >= 0 {
			above++
			want(t, "First", []any{tick, n, wrong}, []any{at, node, api.OK})
		} else {
			want(t, "First", []any{tick, n, wrong}, []any{0, 0, api.ErrNone})
		}
		checkAccount(t, b, v, l)
		checkUntil(t, b, v, randomCondition(r, b), r.Intn(len(b.Nodes)), r.Intn(40))
	}
	if tooLarge < 100 || above < 500 {
		t.Errorf("only %d are too large, %d above a limit", tooLarge, above)
	}
}

// checkAccount compares the balance of steps that fit with the sums of their flows, and the flows with their definition.
func checkAccount(t *testing.T, b basin.Basin, v []int, l []basin.Condition) {
	t.Helper()
	var wanted basin.Balance
	now := v
	for _, c := range l {
		flows, behind, _ := stepped(b, now, c)
		got, e := basin.Flows(b, now, c)
		want(t, "Flows", []any{got, e}, []any{flows, api.OK})
		for i, flow := range flows {
			switch link := b.Links[i]; {
			case link.From == -1 && flow > 0:
				wanted.Sea += flow
			case link.From == -1:
				wanted.Out -= flow
			case link.To == -1:
				wanted.Out += flow
			}
		}
		for _, inflow := range c.Inflow {
			wanted.Rivers += inflow
		}
		now = behind
	}
	balance, e := basin.Account(b, v, l)
	want(t, "Account", []any{balance, e}, []any{wanted, api.OK})
}

func checkUntil(t *testing.T, b basin.Basin, v []int, c basin.Condition, node, level int) {
	t.Helper()
	n, e := basin.Until(b, v, c, node, level)
	now, fits := v, true
	for count := range 97 {
		if !fits {
			want(t, "Until", []any{n, e}, []any{0, api.ErrLarge})
			return
		}
		if down(now[node], b.Nodes[node].Area) >= level {
			want(t, "Until", []any{n, e}, []any{count, api.OK})
			return
		}
		if count < 96 {
			_, now, fits = stepped(b, now, c)
		}
	}
	want(t, "Until", []any{n, e}, []any{0, api.ErrNone})
}
