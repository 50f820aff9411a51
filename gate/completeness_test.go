package gate_test

import (
	"math/rand"
	"slices"
	"testing"

	"tideway/api"
	"tideway/gate"
)

// P6.2

func TestMissing(t *testing.T) {
	full := with(slices.Repeat([]gate.Transition{move(0, "x", 0, 0, 0)}, 2)...)
	full.States = full.States[:4]
	full.Transitions = full.Transitions[4:]
	for _, row := range []struct {
		c    gate.Chart
		want []gate.Case
	}{
		// Example 2.
		{gg(), slices.Concat(
			cases(1, "close", locked...), cases(1, "done", every...), cases(1, "open", every...),
			cases(2, "close", every...), cases(2, "open", every...),
			cases(3, "close", every...), cases(3, "done", every...),
			cases(4, "close", every...), cases(4, "done", every...), cases(4, "open", every...), cases(4, "fail", every...),
		)},
		// What is ambiguous is not ignored.
		{full, nil}, {states(3), nil},
		// The events come in the order of the transitions, also for leaves that are not reachable.
		{gate.Chart{States: states(2).States, Transitions: []gate.Transition{move(0, "z", 0, 2, 2), move(0, "a", 0, 0, 0)}}, slices.Concat(cases(0, "z", 0, 1, 4, 5, 8, 9, 12, 13), cases(1, "z", every...), cases(1, "a", every...))},
	} {
		l, e := gate.Missing(row.c)
		want(t, "Missing", []any{l, e}, []any{row.want, api.OK})
	}
}

func TestAmbiguous(t *testing.T) {
	for _, row := range []struct {
		c    gate.Chart
		want []gate.Case
	}{
		{gg(), nil}, {ambiguous(), cases(2, "done", every...)}, // example 2
		{with(move(0, "fail", 1, 9, 8), move(3, "open", 1, 14, 6)), slices.Concat(cases(1, "fail", 8, 10, 12, 14), cases(2, "fail", 8, 10, 12, 14), cases(3, "open", 6, 7), cases(3, "fail", 8, 10, 12, 14))},
		{deep(), slices.Concat(cases(1, "leave", 0, 1, 2, 3), cases(3, "leave", 0, 1), cases(4, "leave", 0, 1, 2, 3))}, {states(3), nil},
		// Also in leaves that are not reachable.
		{gate.Chart{States: states(2).States, Transitions: []gate.Transition{move(1, "x", 0, 0, 0), move(1, "x", 1, 15, 9)}}, cases(1, "x", 9)},
	} {
		l, e := gate.Ambiguous(row.c)
		want(t, "Ambiguous", []any{l, e}, []any{row.want, api.OK})
	}
}

func TestReachable(t *testing.T) {
	islands := gate.Chart{States: states(5).States, Transitions: []gate.Transition{move(0, "x", 3, 15, 15), move(3, "y", 0, 0, 0), move(1, "x", 2, 0, 0), move(2, "x", 4, 0, 0)}}
	for _, row := range []struct {
		c    gate.Chart
		want []int
	}{
		{gg(), list(1, 2, 3, 4)}, // example 2
		{changed(func(c *gate.Chart) { c.Transitions = c.Transitions[1:] }), list(1, 4)}, {changed(func(c *gate.Chart) { c.Transitions = c.Transitions[:2] }), list(1, 2, 3)}, {changed(func(c *gate.Chart) { c.Transitions = nil }), list(1)}, {changed(func(c *gate.Chart) { c.States[0].Initial = 3 }), list(1, 2, 3, 4)}, {changed(func(c *gate.Chart) { c.States[0].Initial, c.Transitions = 3, c.Transitions[3:] }), list(3, 4)},
		// Nothing is reached by an ambiguous input.
		{ambiguous(), list(1, 2, 4)}, {with(move(0, "fail", 4, 0, 0)), list(1, 2, 3)}, {deep(), list(1, 3, 4, 5, 8)}, {islands, list(0, 3)}, {states(16), list(0)}, {most(), list(0, 15)},
	} {
		l, e := gate.Reachable(row.c)
		want(t, "Reachable", []any{l, e}, []any{row.want, api.OK})
	}
}

// twoWays is a chart in which several traces are as short as each other.
func twoWays() gate.Chart {
	return gate.Chart{States: states(6).States, Transitions: []gate.Transition{
		move(0, "z", 1, 2, 2), move(0, "a", 2, 0, 0), move(1, "a", 3, 12, 4), move(2, "z", 3, 0, 0), move(1, "a", 4, 12, 8), move(2, "a", 4, 1, 1), move(2, "a", 5, 1, 0),
	}}
}

func TestTrace(t *testing.T) {
	for _, row := range []struct {
		c      gate.Chart
		states []int
		want   []gate.Input
	}{
		{gg(), list(3), script("close", "done")}, // example 2
		{gg(), list(1), nil}, {gg(), list(2), script("close")}, {gg(), list(4), script("fail")}, {gg(), list(3, 4), script("fail")}, {gg(), list(4, 2), script("close")}, {gg(), list(3, 1), nil}, {gg(), list(0, 3), script("close", "done")}, {gg(), slices.Repeat(list(3), 16), script("close", "done")},
		// The event with the lesser index goes before lesser conditions, and those of the first input before those of the next one.
		{twoWays(), list(1), []gate.Input{input("z", 2)}}, {twoWays(), list(2), script("a")}, {twoWays(), list(1, 2), []gate.Input{input("z", 2)}}, {twoWays(), list(3), []gate.Input{input("z", 2), input("a", 4)}}, {twoWays(), list(4), []gate.Input{input("z", 2), input("a", 8)}}, {twoWays(), list(4, 3), []gate.Input{input("z", 2), input("a", 4)}}, {twoWays(), list(5), script("a", "a")}, {twoWays(), list(5, 4), []gate.Input{input("z", 2), input("a", 8)}},
		{deep(), list(4), nil}, {deep(), list(5), []gate.Input{input("go", 3)}}, {deep(), list(8), []gate.Input{input("leave", 4)}}, {deep(), list(3, 8), []gate.Input{input("go", 1)}}, {deep(), list(1, 3), []gate.Input{input("go", 0)}},
		{most(), list(15), []gate.Input{input(most().Transitions[0].Event, 15)}}, {ambiguous(), list(4), script("fail")}, {states(1), list(0), nil},
	} {
		l, e := gate.Trace(row.c, row.states)
		want(t, "Trace", []any{row.states, l, e}, []any{row.states, row.want, api.OK})
		want(t, "CheckTrace", gate.CheckTrace(row.c, row.states, row.want), api.OK)
	}
}

// A chart whose only trace to the last leaf leads through all of them.
func TestTheLongestTrace(t *testing.T) {
	c := states(16)
	var wanted []gate.Input
	for i := range 15 {
		c.Transitions = append(c.Transitions, move(i, []string{"x", "y"}[i%2], i+1, 15, i))
		wanted = append(wanted, input([]string{"x", "y"}[i%2], i))
	}
	l, e := gate.Trace(c, list(15))
	want(t, "Trace", []any{l, e}, []any{wanted, api.OK})
	want(t, "CheckTrace", gate.CheckTrace(c, list(15), wanted), api.OK)
	want(t, "CheckTrace", gate.CheckTrace(c, list(15), wanted[:14]), api.ErrProof)
}

func TestNoTrace(t *testing.T) {
	for _, row := range []struct {
		c      gate.Chart
		states []int
	}{
		{gg(), nil}, {gg(), list(0)}, {ambiguous(), list(3)}, {ambiguous(), list(0, 3)}, {states(3), list(1, 2)}, {deep(), list(0, 2, 6, 7)}, {changed(func(c *gate.Chart) { c.Transitions = nil }), list(2, 3, 4)},
	} {
		l, e := gate.Trace(row.c, row.states)
		wantError(t, "Trace", l, e, api.ErrNone)
	}
	for _, bad := range badIndicesOfStates() {
		l, e := gate.Trace(gg(), bad.l)
		wantError(t, "Trace", l, e, bad.e)
	}
}

func TestCheckTrace(t *testing.T) {
	for _, row := range []struct {
		c      gate.Chart
		states []int
		l      []gate.Input
		e      api.Errno
	}{
		// Any trace does, also a longer one, and one with inputs that are ignored.
		{gg(), list(3), script("close", "done"), api.OK}, {gg(), list(3), script("close", "done", "open", "close", "done"), api.OK}, {gg(), list(3), append(script("x", "close", "close"), input("done", 15)), api.OK}, {gg(), list(1), nil, api.OK}, {gg(), list(4, 1), script("done"), api.OK}, {gg(), list(1), append(slices.Repeat(script("close", "done", "open"), 21), input("x", 15)), api.OK},
		{gg(), list(3), script("close"), api.ErrProof}, {gg(), list(3), []gate.Input{input("close", 1), input("done", 0)}, api.ErrProof}, {gg(), list(3), script("close", "done", "fail"), api.ErrProof}, {gg(), list(0), script("close"), api.ErrProof}, {gg(), nil, nil, api.ErrProof}, {gg(), list(2, 3, 4), nil, api.ErrProof}, {gg(), list(1, 2), script("close", "done"), api.ErrProof}, {states(2), list(1), script("x"), api.ErrProof},
		{ambiguous(), list(2), script("close", "done"), api.ErrConflict}, {ambiguous(), list(4), script("close", "done", "fail"), api.ErrConflict}, {ambiguous(), nil, script("close", "done"), api.ErrConflict}, {ambiguous(), list(4), script("close", "fail", "done"), api.OK}, {ambiguous(), list(3), script("done", "close"), api.ErrProof},
	} {
		want(t, "CheckTrace", []any{row.states, row.l, gate.CheckTrace(row.c, row.states, row.l)}, []any{row.states, row.l, row.e})
	}
}

func TestErrorsOfCheckTrace(t *testing.T) {
	for _, script := range badScripts() {
		want(t, "CheckTrace", gate.CheckTrace(ambiguous(), nil, script.l), script.e)
		for _, bad := range badIndicesOfStates() {
			want(t, "CheckTrace", gate.CheckTrace(gg(), bad.l, script.l), bad.e)
		}
	}
	for _, bad := range badIndicesOfStates() {
		want(t, "CheckTrace", gate.CheckTrace(ambiguous(), bad.l, script("close", "done")), bad.e)
	}
	want(t, "CheckTrace", gate.CheckTrace(ambiguous(), list(4), script("close", "done", "9")), api.ErrName)
}

func TestAgainst(t *testing.T) {
	unlocked := changed(func(c *gate.Chart) { c.Transitions[0] = move(1, "close", 2, 0, 0) })
	for _, row := range []struct {
		c    gate.Chart
		want []gate.Case
	}{
		{gg(), slices.Concat(cases(2, "close", locked...), cases(2, "open", locked...))}, // example 3
		{unlocked, slices.Concat(cases(1, "close", locked...), cases(2, "close", locked...), cases(2, "open", locked...))},
		// What is ambiguous leads nowhere, also from a leaf in which the gate moves, or to one; leaves that are not reachable do not count.
		{ambiguous(), slices.Concat(cases(2, "close", locked...), cases(2, "open", locked...))}, {with(move(0, "fail", 2, 3, 3)), slices.Concat(cases(2, "close", locked...), cases(2, "open", locked...))},
		{changed(func(c *gate.Chart) { c.States[4].Moves, c.Transitions = true, c.Transitions[:3] }), slices.Concat(cases(2, "close", locked...), cases(2, "open", locked...))}, {changed(func(c *gate.Chart) { c.Transitions[0].To = 3 }), nil}, {changed(func(c *gate.Chart) { c.States[2].Moves = false }), nil},
		// The movement stops at any event while the gate is locked.
		{with(move(2, "close", 1, 1, 1), move(2, "open", 1, 1, 1)), nil}, {with(move(2, "close", 1, 3, 3), move(2, "open", 1, 0, 0)), cases(2, "close", 1, 5, 9, 13)},
		{gate.Chart{States: []gate.State{moving("a", -1)}}, nil}, {gate.Chart{States: []gate.State{moving("a", -1)}, Transitions: []gate.Transition{move(0, "x", 0, 1, 1)}}, cases(0, "x", locked...)},
		{deep(), slices.Concat(cases(3, "go", locked...), cases(3, "back", locked...), cases(3, "leave", 13), cases(4, "go", 1, 5, 9, 13))},
	} {
		l, e := gate.Against(row.c)
		want(t, "Against", []any{l, e}, []any{row.want, api.OK})
	}
}

func TestCasesByDefinition(t *testing.T) {
	r := rand.New(rand.NewSource(122))
	for range 400 {
		c := randomChart(r, 16)
		all := leaves(c)
		missing, e := gate.Missing(c)
		want(t, "Missing", []any{missing, e}, []any{allCases(c, all, func(x gate.Case, to, n int) bool { return n == 0 }), api.OK})
		more, e := gate.Ambiguous(c)
		want(t, "Ambiguous", []any{more, e}, []any{allCases(c, all, func(x gate.Case, to, n int) bool { return n > 1 }), api.OK})
		reached, e := gate.Reachable(c)
		want(t, "Reachable", []any{reached, e}, []any{reachable(c), api.OK})
		against, e := gate.Against(c)
		want(t, "Against", []any{against, e}, []any{allCases(c, reached, func(x gate.Case, to, n int) bool { return x.Conditions%2 == 1 && n < 2 && c.States[to].Moves }), api.OK})
	}
}

func TestTracesByDefinition(t *testing.T) {
	r := rand.New(rand.NewSource(123))
	longest, none := 0, 0
	for range 150 {
		c := randomChart(r, 16)
		for range 3 {
			var states []int
			for range 1 + r.Intn(3) {
				states = append(states, r.Intn(len(c.States)))
			}
			wanted, found := trace(c, states)
			l, e := gate.Trace(c, states)
			if !found {
				none++
				wantError(t, "Trace", l, e, api.ErrNone)
				continue
			}
			longest = max(longest, len(l))
			want(t, "Trace", []any{states, l, e}, []any{states, wanted, api.OK})
		}
	}
	if longest < 3 || none < 50 {
		t.Errorf("the longest trace has %d inputs, and %d are missing", longest, none)
	}
}

func TestCheckTraceByDefinition(t *testing.T) {
	r := rand.New(rand.NewSource(124))
	proofs := 0
	for range 1000 {
		c := randomChart(r, 8)
		l, states := randomScript(r, c, 4), list(r.Intn(len(c.States)), r.Intn(len(c.States)))
		wanted := api.ErrProof
		if course, sure := play(c, l, gate.Failure{}); !sure {
			wanted = api.ErrConflict
		} else if slices.Contains(states, course[len(l)]) {
			wanted = api.OK
			proofs++
		}
		want(t, "CheckTrace", []any{c, states, l, gate.CheckTrace(c, states, l)}, []any{c, states, l, wanted})
	}
	if proofs < 100 {
		t.Errorf("only %d traces", proofs)
	}
}
