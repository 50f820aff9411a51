package gate_test

import (
	"math"
	"math/rand"
	"slices"
	"strings"
	"testing"

	"tideway/api"
	"tideway/gate"
)

// P6.1

func TestLimits(t *testing.T) {
	want(t, "limits", list(gate.MaxStates, gate.MaxMoves, gate.MaxKinds, gate.MaxSensors, gate.MaxPosition, gate.MaxScript, gate.MaxCommands), list(16, 48, 8, 9, 1000, 64, 256))
}

func TestCheckChart(t *testing.T) {
	ring := changed(func(c *gate.Chart) { c.Transitions[0] = move(0, "x", 0, 15, 0) }) // transitions may come back
	for _, c := range []gate.Chart{
		gg(), deep(), ambiguous(), most(), states(1), states(16), ring, {States: []gate.State{moving("A_9", -1)}},
		with(move(0, "x", 4, 15, 15), move(4, "y", 0, 15, 0), move(4, "y", 4, 8, 8), move(1, "z", 1, 10, 2)),
		with(slices.Repeat([]gate.Transition{move(0, "x", 4, 0, 0)}, 44)...),
		// An event may have the name of a state, and names differ by their case.
		changed(func(c *gate.Chart) { c.States[1].Name, c.States[2].Name = "done", "Done" }),
	} {
		want(t, "CheckChart", gate.CheckChart(c), api.OK)
	}
	for i, bad := range badCharts() {
		want(t, "CheckChart", []any{i, gate.CheckChart(bad.c)}, []any{i, bad.e})
	}
}

// chartCalls calls all functions with a chart, and with the same other arguments.
func chartCalls(c gate.Chart, indices []int, l []gate.Input, f gate.Failure) map[string][]any {
	out := map[string][]any{}
	keep := func(what string) func(any, api.Errno) {
		return func(result any, e api.Errno) { out[what] = []any{result, e} }
	}
	of := func(f func(gate.Chart) ([]gate.Case, api.Errno)) (any, api.Errno) { return f(c) }
	numbers := func(l []int, e api.Errno) (any, api.Errno) { return l, e }
	number := func(n int, e api.Errno) (any, api.Errno) { return n, e }
	g := gate.Goal{Closed: indices, Told: indices, Latest: len(l) + 1}
	keep("Leaves")(numbers(gate.Leaves(c)))
	names, e := gate.Events(c)
	keep("Events")(names, e)
	keep("Start")(number(gate.Start(c)))
	keep("Step")(number(gate.Step(c, indices[0], l[0])))
	keep("Run")(numbers(gate.Run(c, l)))
	keep("Missing")(of(gate.Missing))
	keep("Ambiguous")(of(gate.Ambiguous))
	keep("Reachable")(numbers(gate.Reachable(c)))
	inputs, e := gate.Trace(c, indices)
	keep("Trace")(inputs, e)
	keep("CheckTrace")(0, gate.CheckTrace(c, indices, l))
	keep("Against")(of(gate.Against))
	keep("Play")(numbers(gate.Play(c, l, f)))
	is, e := gate.Serves(c, l, g, f)
	keep("Serves")(is, e)
	failures, e := gate.Weak(c, l, g)
	keep("Weak")(failures, e)
	text, e := gate.Print(c)
	keep("Print")(text, e)
	return out
}

// The error of the chart goes before those of all other arguments.
func TestBadChartsInAllFunctions(t *testing.T) {
	other := []gate.Input{input("", 16)}
	for _, bad := range badCharts() {
		results := chartCalls(bad.c, list(math.MaxInt), other, failure("x"))
		want(t, "calls", len(results), 15)
		for what, result := range results {
			wantError(t, what, result[0], result[1].(api.Errno), bad.e)
		}
	}
}

func TestLeavesEventsAndStart(t *testing.T) {
	for _, row := range []struct {
		c      gate.Chart
		leaves []int
		events string
		start  int
	}{
		{gg(), list(1, 2, 3, 4), "close done open fail", 1}, // example 1
		{deep(), list(1, 3, 4, 5, 8), "go back leave", 4}, {ambiguous(), list(1, 2, 3, 4), "close done open fail", 1}, {states(1), list(0), "", 0}, {states(3), list(0, 1, 2), "", 0},
		{changed(func(c *gate.Chart) { c.States[0].Initial = 3 }), list(1, 2, 3, 4), "close done open fail", 3},
		{changed(func(c *gate.Chart) { slices.Reverse(c.Transitions) }), list(1, 2, 3, 4), "fail open done close", 1},
		{with(move(0, "a", 0, 0, 0), move(0, "fail", 0, 1, 0), move(0, "Close", 0, 0, 0)), list(1, 2, 3, 4), "close done open fail a Close", 1},
	} {
		l, e := gate.Leaves(row.c)
		want(t, "Leaves", []any{l, e}, []any{row.leaves, api.OK})
		names, e := gate.Events(row.c)
		want(t, "Events", []any{strings.Join(names, " "), e}, []any{row.events, api.OK})
		start, e := gate.Start(row.c)
		want(t, "Start", []any{start, e}, []any{row.start, api.OK})
	}
	l, e := gate.Events(most())
	want(t, "Events", []any{len(l), l[7], e}, []any{8, strings.Repeat("H", 24), api.OK})
}

func TestStep(t *testing.T) {
	narrow := with(move(4, "x", 1, 6, 2), move(4, "x", 3, 6, 4))
	for _, row := range []struct {
		c          gate.Chart
		leaf       int
		event      string
		conditions int
		to         int
	}{
		{gg(), 1, "close", 0, 2}, {gg(), 1, "close", 14, 2}, {gg(), 2, "done", 15, 3}, {gg(), 3, "open", 3, 1}, {gg(), 1, "fail", 0, 4}, {gg(), 2, "fail", 0, 4}, {gg(), 3, "fail", 15, 4}, // examples 1 and 2
		{gg(), 1, "close", 1, 1}, {gg(), 1, "close", 15, 1}, {gg(), 3, "close", 0, 3}, {gg(), 4, "fail", 0, 4}, {gg(), 4, "open", 0, 4}, {gg(), 2, "stop", 0, 2}, {gg(), 1, "Close", 0, 1}, {gg(), 1, "clos", 0, 1},
		// The innermost transition that fits is taken, whatever comes first.
		{deep(), 4, "go", 0, 1}, {deep(), 4, "go", 2, 1}, {deep(), 4, "go", 1, 3}, {deep(), 4, "go", 13, 3}, {deep(), 4, "go", 3, 5}, {deep(), 4, "go", 15, 5}, {deep(), 3, "go", 3, 3}, {deep(), 3, "go", 2, 1}, {deep(), 1, "go", 3, 1}, {deep(), 5, "go", 3, 5}, {deep(), 8, "go", 3, 8},
		// Entering goes on through all layers.
		{deep(), 5, "back", 0, 4}, {deep(), 1, "back", 8, 4}, {deep(), 1, "back", 7, 1}, {deep(), 4, "leave", 4, 8}, {deep(), 1, "leave", 8, 8}, {deep(), 1, "leave", 12, 1}, {deep(), 3, "leave", 2, 5}, {deep(), 3, "leave", 4, 8},
		{narrow, 4, "x", 2, 1}, {narrow, 4, "x", 11, 1}, {narrow, 4, "x", 4, 3}, {narrow, 4, "x", 13, 3}, {narrow, 4, "x", 0, 4}, {narrow, 4, "x", 6, 4}, {narrow, 4, "x", 15, 4},
	} {
		to, e := gate.Step(row.c, row.leaf, input(row.event, row.conditions))
		want(t, "Step by "+row.event, []any{row.leaf, row.conditions, to, e}, []any{row.leaf, row.conditions, row.to, api.OK})
	}
}

func TestAmbiguousSteps(t *testing.T) {
	for _, row := range []struct {
		c          gate.Chart
		leaf       int
		event      string
		conditions int
		e          api.Errno
	}{
		{ambiguous(), 2, "done", 0, api.ErrConflict}, {ambiguous(), 2, "done", 15, api.ErrConflict}, {ambiguous(), 1, "done", 0, api.OK}, {ambiguous(), 2, "fail", 0, api.OK},
		// Also if both lead to the same state, or if a third one fits farther outside; but not if one fits farther inside.
		{with(move(0, "fail", 4, 1, 1)), 1, "fail", 1, api.ErrConflict}, {with(move(0, "fail", 4, 1, 1)), 1, "fail", 0, api.OK}, {with(move(1, "fail", 4, 0, 0), move(1, "fail", 4, 0, 0)), 1, "fail", 0, api.ErrConflict}, {with(move(0, "fail", 4, 0, 0), move(1, "fail", 2, 0, 0)), 1, "fail", 0, api.OK}, {with(move(0, "fail", 4, 0, 0), move(1, "fail", 2, 0, 0)), 2, "fail", 0, api.ErrConflict},
		{deep(), 4, "leave", 0, api.ErrConflict}, {deep(), 4, "leave", 4, api.OK}, {deep(), 3, "leave", 0, api.ErrConflict}, {deep(), 3, "leave", 2, api.OK}, {deep(), 8, "leave", 0, api.OK},
	} {
		to, e := gate.Step(row.c, row.leaf, input(row.event, row.conditions))
		wantError(t, "Step by "+row.event, to, e, row.e)
	}
}

func TestErrorsOfStep(t *testing.T) {
	for _, row := range []struct {
		leaf int
		in   gate.Input
		e    api.Errno
	}{
		{math.MinInt, input("", 0), api.ErrUnknown}, {-1, input("", 0), api.ErrUnknown}, {5, input("", 0), api.ErrUnknown}, {math.MaxInt, input("", 0), api.ErrUnknown}, {0, input("", 0), api.ErrState}, {0, input("close", 0), api.ErrState}, {1, input("close", 15), api.OK}, {4, input("x", 0), api.OK},
	} {
		_, e := gate.Step(gg(), row.leaf, row.in)
		want(t, "Step", []any{row.leaf, e}, []any{row.leaf, row.e})
	}
	for _, name := range badNames {
		n, e := gate.Step(gg(), 1, input(name, 16))
		wantError(t, "Step", n, e, api.ErrName)
	}
	for _, conditions := range outside(15) {
		n, e := gate.Step(ambiguous(), 2, input("done", conditions))
		wantError(t, "Step", n, e, api.ErrRange)
	}
	n, e := gate.Step(deep(), 2, input("go", 0))
	wantError(t, "Step", n, e, api.ErrState)
}

func TestRun(t *testing.T) {
	for _, row := range []struct {
		c    gate.Chart
		l    []gate.Input
		want []int
	}{
		{gg(), script("close", "done", "close", "fail"), list(2, 3, 3, 4)}, // example 1
		{gg(), nil, nil}, {gg(), []gate.Input{input("close", 1), input("close", 2), input("x", 0), input("done", 3)}, list(1, 2, 2, 3)}, {gg(), script("close", "done", "open", "close"), list(2, 3, 1, 2)},
		{ambiguous(), script("close", "fail", "done"), list(2, 4, 4)}, {deep(), []gate.Input{input("go", 3), input("back", 0), input("go", 1), input("leave", 4)}, list(5, 4, 3, 8)}, {states(2), script("a", "b"), list(0, 0)},
		{gg(), slices.Repeat(script("x"), 64), slices.Repeat(list(1), 64)}, {changed(func(c *gate.Chart) { c.States[0].Initial = 2 }), script("done", "open"), list(3, 1)},
	} {
		l, e := gate.Run(row.c, row.l)
		want(t, "Run", []any{l, e}, []any{row.want, api.OK})
	}
	for _, l := range [][]gate.Input{script("close", "done"), script("done", "close", "done", "fail"), append(script("x", "close"), input("done", 7))} {
		got, e := gate.Run(ambiguous(), l)
		wantError(t, "Run", got, e, api.ErrConflict)
	}
	for _, bad := range badScripts() {
		l, e := gate.Run(ambiguous(), bad.l)
		wantError(t, "Run", l, e, bad.e)
	}
	// All inputs are looked at before the first one comes.
	l, e := gate.Run(ambiguous(), script("close", "done", "9"))
	wantError(t, "Run", l, e, api.ErrName)
}

func TestChartsByDefinition(t *testing.T) {
	r := rand.New(rand.NewSource(121))
	conflicts := 0
	for range 600 {
		c := randomChart(r, 16)
		want(t, "CheckChart", gate.CheckChart(c), api.OK)
		l, _ := gate.Leaves(c)
		want(t, "Leaves", l, leaves(c))
		names, _ := gate.Events(c)
		want(t, "Events", names, events(c))
		start, _ := gate.Start(c)
		want(t, "Start", start, enter(c, 0))
		for _, in := range randomScript(r, c, 12) {
			leaf := l[r.Intn(len(l))]
			to, n := step(c, leaf, in)
			got, e := gate.Step(c, leaf, in)
			if n > 1 {
				conflicts++
				wantError(t, "Step", got, e, api.ErrConflict)
			} else {
				want(t, "Step", []any{got, e}, []any{to, api.OK})
			}
		}
		wantRun(t, c, randomScript(r, c, 8))
	}
	if conflicts < 100 {
		t.Errorf("only %d steps are ambiguous", conflicts)
	}
}

func wantRun(t *testing.T, c gate.Chart, l []gate.Input) {
	t.Helper()
	course, sure := play(c, l, gate.Failure{})
	got, e := gate.Run(c, l)
	if sure {
		want(t, "Run", []any{got, e}, []any{course[1:], api.OK})
	} else {
		wantError(t, "Run", got, e, api.ErrConflict)
	}
}
