package gate_test

import (
	"fmt"
	"math"
	"math/rand"
	"reflect"
	"slices"
	"strings"
	"testing"

	"tideway/api"
	"tideway/gate"
)

// want compares what results print as: so nil and empty lists are equal.
func want(t *testing.T, what string, got, wanted any) {
	t.Helper()
	if g, w := fmt.Sprintf("%+v", got), fmt.Sprintf("%+v", wanted); g != w {
		t.Errorf("%s: got %s, want %s", what, g, w)
	}
}

// wantError reports an error that is not the wanted one, and a result beside an error that is not zero.
func wantError(t *testing.T, what string, got any, e, wanted api.Errno) {
	t.Helper()
	want(t, "error of "+what, e, wanted)
	if e != api.OK {
		want(t, what+" beside an error", got, reflect.Zero(reflect.TypeOf(got)).Interface())
	}
}

func list(l ...int) []int {
	return l
}

func state(name string, parent, initial int) gate.State {
	return gate.State{Name: name, Parent: parent, Initial: initial}
}

// moving is a leaf in which the gate moves.
func moving(name string, parent int) gate.State {
	return gate.State{Name: name, Parent: parent, Initial: -1, Moves: true}
}

func move(from int, event string, to, mask, value int) gate.Transition {
	return gate.Transition{From: from, Event: event, To: to, Mask: mask, Value: value}
}

func input(event string, conditions int) gate.Input {
	return gate.Input{Event: event, Conditions: conditions}
}

// script returns inputs with the conditions 0.
func script(events ...string) []gate.Input {
	var out []gate.Input
	for _, event := range events {
		out = append(out, input(event, 0))
	}
	return out
}

// cases returns the cases of a leaf and an event.
func cases(leaf int, event string, conditions ...int) []gate.Case {
	var out []gate.Case
	for _, n := range conditions {
		out = append(out, gate.Case{Leaf: leaf, Event: event, Conditions: n})
	}
	return out
}

// every is all conditions, locked those with the bit 0.
var (
	every  = list(0, 1, 2, 3, 4, 5, 6, 7, 8, 9, 10, 11, 12, 13, 14, 15)
	locked = list(1, 3, 5, 7, 9, 11, 13, 15)
)

// gg is the chart G of the chapter's examples.
func gg() gate.Chart {
	return gate.Chart{States: []gate.State{state("work", -1, 1), state("open", 0, -1), moving("lower", 0), state("closed", 0, -1), state("alarm", -1, -1)}, Transitions: []gate.Transition{
		move(1, "close", 2, 1, 0), move(2, "done", 3, 0, 0), move(3, "open", 1, 0, 0), move(0, "fail", 4, 0, 0),
	}}
}

// deep is a chart with states in three layers, whose initial children are not the first ones.
func deep() gate.Chart {
	return gate.Chart{States: []gate.State{
		state("top", -1, 2), state("rest", 0, -1), state("mid", 0, 4), moving("up", 2), state("down", 2, -1), state("off", -1, -1), state("far", -1, 7), state("farther", 6, 8), state("farthest", 7, -1),
	}, Transitions: []gate.Transition{
		move(0, "go", 1, 0, 0), move(2, "go", 3, 1, 1), move(4, "go", 5, 3, 3), // each one goes before those in front of it
		move(5, "back", 0, 0, 0), move(1, "back", 2, 8, 8), move(0, "leave", 6, 4, 0), move(0, "leave", 6, 8, 0), move(3, "leave", 5, 2, 2),
	}}
}

// ambiguous is G with a second transition done from lower.
func ambiguous() gate.Chart {
	return with(move(2, "done", 4, 0, 0))
}

// with is G with more transitions.
func with(l ...gate.Transition) gate.Chart {
	return changed(func(c *gate.Chart) { c.Transitions = append(c.Transitions, l...) })
}

// changed is G after a change.
func changed(f func(c *gate.Chart)) gate.Chart {
	c := gg()
	f(&c)
	return c
}

// most is a chart with as many states, transitions and events as there may be, and the longest names.
func most() gate.Chart {
	var c gate.Chart
	for i := range 16 {
		c.States = append(c.States, moving(strings.Repeat(string(rune('a'+i)), 24), -1))
	}
	for i := range 48 {
		c.Transitions = append(c.Transitions, move(i%16, strings.Repeat(string(rune('A'+i/6)), 24), 15, 15, 15))
	}
	return c
}

// states returns a chart with so many leaves.
func states(n int) gate.Chart {
	var c gate.Chart
	for i := range n {
		c.States = append(c.States, state(fmt.Sprint("s", i), -1, -1))
	}
	return c
}

// badChart is a chart with its first error.
type badChart struct {
	c gate.Chart
	e api.Errno
}

var badNames = []string{"", "9", "a b", "_a", "é", "A-", "a\n", strings.Repeat("a", 25)}

// outside returns numbers that are not from 0 to n.
func outside(n int) []int {
	return list(math.MinInt, -1, n+1, math.MaxInt)
}

func badCharts() []badChart {
	out := []badChart{
		{gate.Chart{}, api.ErrEmpty}, {gate.Chart{Transitions: make([]gate.Transition, 49)}, api.ErrEmpty},
		{states(17), api.ErrMany}, {gate.Chart{States: make([]gate.State, 17)}, api.ErrMany}, {gate.Chart{States: make([]gate.State, 16)}, api.ErrName},
	}
	return slices.Concat(out, badStates(), badChildren(), badTransitions())
}

// badStates are charts with wrong names and parents.
func badStates() []badChart {
	var out []badChart
	at := func(e api.Errno, i int, f func(s *gate.State)) {
		out = append(out, badChart{changed(func(c *gate.Chart) { f(&c.States[i]) }), e})
	}
	for _, name := range badNames {
		at(api.ErrName, 0, func(s *gate.State) { s.Name = name })
		at(api.ErrName, 4, func(s *gate.State) { s.Name, s.Parent, s.Initial = name, 4, 7 })
	}
	for i := range 4 {
		at(api.ErrTwice, 4, func(s *gate.State) { s.Name, s.Parent = gg().States[i].Name, 4 })
	}
	for i := range 5 {
		for _, parent := range list(math.MinInt, -2, i, i+1, 5, math.MaxInt) {
			at(api.ErrOrder, i, func(s *gate.State) { s.Parent = parent })
		}
	}
	both := func(e api.Errno, first, second func(s *gate.State)) {
		out = append(out, badChart{changed(func(c *gate.Chart) {
			c.States[0].Initial = 9
			first(&c.States[2])
			second(&c.States[3])
		}), e})
	}
	unnamed, twice, before := func(s *gate.State) { s.Name = "" }, func(s *gate.State) { s.Name = "open" }, func(s *gate.State) { s.Parent = 4 }
	both(api.ErrName, unnamed, twice)
	both(api.ErrName, unnamed, before)
	both(api.ErrTwice, twice, unnamed)
	both(api.ErrTwice, twice, before)
	both(api.ErrOrder, before, unnamed)
	both(api.ErrOrder, before, twice)
	return out
}

// badChildren are charts whose states do not fit their children.
func badChildren() []badChart {
	var out []badChart
	at := func(e api.Errno, f func(c *gate.Chart)) {
		out = append(out, badChart{changed(f), e})
	}
	for _, initial := range list(math.MinInt, -2, -1, 0, 4, 5, math.MaxInt) {
		at(api.ErrForm, func(c *gate.Chart) { c.States[0].Initial = initial })
		at(api.ErrMany, func(c *gate.Chart) { c.States = append(states(12).States, c.States...); c.States[12].Initial = initial })
	}
	for _, initial := range list(math.MinInt, -2, 0, 1, 2, 3, 4, 5, math.MaxInt) {
		at(api.ErrForm, func(c *gate.Chart) { c.States[1].Initial = initial })
		at(api.ErrForm, func(c *gate.Chart) { c.States[4].Initial = initial })
	}
	at(api.ErrForm, func(c *gate.Chart) { c.States[0].Moves = true })
	at(api.ErrForm, func(c *gate.Chart) { c.States[0].Moves, c.Transitions = true, make([]gate.Transition, 49) })
	at(api.ErrForm, func(c *gate.Chart) { c.States[4].Initial, c.Transitions[0].From = 0, -1 })
	grandchild := deep()
	grandchild.States[0].Initial = 4
	inner := deep()
	inner.States[2].Moves = true
	return append(out, badChart{grandchild, api.ErrForm}, badChart{inner, api.ErrForm})
}

// badTransitions are charts with wrong transitions, or with too many of them.
func badTransitions() []badChart {
	var out []badChart
	at := func(e api.Errno, l ...gate.Transition) {
		out = append(out, badChart{with(l...), e})
	}
	for _, n := range outside(4) {
		at(api.ErrUnknown, move(n, "", 0, -1, -1))
		at(api.ErrUnknown, move(0, "", n, -1, -1))
	}
	for _, name := range badNames {
		at(api.ErrName, move(0, name, 4, 16, 16))
	}
	for _, n := range outside(15) {
		at(api.ErrRange, move(0, "x", 4, n, 0))
		at(api.ErrRange, move(0, "x", 4, n, 1))
		at(api.ErrRange, move(0, "x", 4, 0, n))
		at(api.ErrRange, move(0, "x", 4, 15, n))
	}
	for bit := range 4 {
		at(api.ErrForm, move(0, "x", 4, 0, 1<<bit))
		at(api.ErrForm, move(0, "x", 4, 15-1<<bit, 15), move(9, "", 0, 0, 0))
	}
	at(api.ErrUnknown, move(0, "x", 5, 0, 0), move(0, "", 0, 0, 0))
	at(api.ErrName, move(0, "9", 0, 0, 0), move(5, "x", 0, 0, 0))
	at(api.ErrRange, move(0, "x", 0, 16, 0), move(5, "", 0, 0, 1))
	first := gg()
	first.Transitions[0].Value, first.Transitions[3].To = 2, 5
	out = append(out, badChart{first, api.ErrForm})
	at(api.ErrMany, slices.Repeat([]gate.Transition{move(0, "x", 4, 0, 0)}, 45)...)
	at(api.ErrMany, make([]gate.Transition, 45)...)
	at(api.ErrName, make([]gate.Transition, 44)...)
	var five []gate.Transition
	for _, event := range []string{"a", "b", "c", "d", "e"} {
		five = append(five, move(0, event, 4, 0, 0))
	}
	at(api.ErrMany, five...)
	at(api.ErrForm, append(five, move(0, "x", 4, 1, 2))...)
	return out
}

// badScript is a script with its first error.
type badScript struct {
	l []gate.Input
	e api.Errno
}

func badScripts() []badScript {
	out := []badScript{
		{slices.Repeat(script("open"), 65), api.ErrMany}, {make([]gate.Input, 65), api.ErrMany}, {make([]gate.Input, 64), api.ErrName},
		{[]gate.Input{input("open", 16), input("", 0)}, api.ErrRange}, {[]gate.Input{input("9", 0), input("open", 16)}, api.ErrName},
	}
	for _, name := range badNames {
		out = append(out, badScript{[]gate.Input{input(name, 16)}, api.ErrName}, badScript{script("open", "close", name), api.ErrName})
	}
	for _, n := range outside(15) {
		out = append(out, badScript{[]gate.Input{input("open", n)}, api.ErrRange}, badScript{append(script("open", "x"), input("x", n)), api.ErrRange})
	}
	return out
}

// badIndices is indices of states of G with their first error.
type badIndices struct {
	l []int
	e api.Errno
}

func badIndicesOfStates() []badIndices {
	out := []badIndices{{make([]int, 17), api.ErrMany}, {slices.Repeat(list(-1), 17), api.ErrMany}, {slices.Repeat(list(5), 16), api.ErrUnknown}}
	for _, n := range outside(4) {
		out = append(out, badIndices{list(n), api.ErrUnknown}, badIndices{list(0, 4, n), api.ErrUnknown})
	}
	return out
}

// badFailure is a failure of a script of two ticks with its first error.
type badFailure struct {
	f gate.Failure
	e api.Errno
}

func failure(kind string, numbers ...int) gate.Failure {
	f := gate.Failure{Kind: kind}
	for i, n := range numbers {
		*[]*int{&f.At, &f.Bit, &f.Value}[i] = n
	}
	return f
}

func badFailures() []badFailure {
	var out []badFailure
	for _, kind := range []string{"", "None", "los", "stuck ", "x"} {
		out = append(out, badFailure{failure(kind), api.ErrKind}, badFailure{failure(kind, -1, 9, 9), api.ErrKind})
	}
	for _, n := range list(math.MinInt, -1, 1, math.MaxInt) {
		out = append(out,
			badFailure{failure("none", n), api.ErrForm}, badFailure{failure("none", 0, n), api.ErrForm}, badFailure{failure("none", 0, 0, n), api.ErrForm},
			badFailure{failure("lost", 1, n), api.ErrForm}, badFailure{failure("lost", 1, 0, n), api.ErrForm}, badFailure{failure("lost", -1, n), api.ErrForm}, badFailure{failure("lost", 2, 0, n), api.ErrForm},
		)
	}
	for _, n := range outside(1) {
		out = append(out, badFailure{failure("lost", n), api.ErrRange}, badFailure{failure("stuck", n), api.ErrRange}, badFailure{failure("stuck", 1, 1, n), api.ErrRange})
	}
	for _, n := range outside(3) {
		out = append(out, badFailure{failure("stuck", 1, n), api.ErrRange})
	}
	return out
}

// badGoal is a goal for G and a script of two ticks with its first error.
type badGoal struct {
	g gate.Goal
	e api.Errno
}

func badGoals() []badGoal {
	var out []badGoal
	for _, bad := range badIndicesOfStates() {
		other := badIndicesOfStates()[0]
		if bad.e == api.ErrMany {
			other.l = list(-1)
		}
		out = append(out, badGoal{gate.Goal{Closed: bad.l, Told: other.l, Latest: -1}, bad.e}, badGoal{gate.Goal{Closed: list(3), Told: bad.l, Earlier: -1}, bad.e})
	}
	for _, n := range outside(2) {
		out = append(out, badGoal{gate.Goal{Latest: n}, api.ErrRange}, badGoal{gate.Goal{Earlier: n}, api.ErrRange})
	}
	return out
}

// randomChart returns a chart with nested states, some ambiguous cases, and some leaves that are not reachable.
func randomChart(r *rand.Rand, most int) gate.Chart {
	var c gate.Chart
	n, nested := 1+r.Intn(most), 1+r.Intn(4)
	children := make([][]int, n)
	for i := range n {
		parent := -1
		if i > 0 && r.Intn(nested) > 0 {
			parent = r.Intn(i)
			children[parent] = append(children[parent], i)
		}
		c.States = append(c.States, state(fmt.Sprint("s", i), parent, -1))
	}
	for i, l := range children {
		if len(l) > 0 {
			c.States[i].Initial = l[r.Intn(len(l))]
		} else {
			c.States[i].Moves = r.Intn(3) == 0
		}
	}
	events := r.Perm(8)[:1+r.Intn(8)]
	masks := [][]int{{0}, {0, 1, 1, 2}, every, {1, 3, 15}}[r.Intn(4)]
	for range r.Intn(49) {
		mask := masks[r.Intn(len(masks))]
		c.Transitions = append(c.Transitions, move(r.Intn(n), fmt.Sprint("e", events[r.Intn(len(events))]), r.Intn(n), mask, mask&r.Intn(16)))
	}
	return c
}

// randomScript returns a script of the events of a chart, and sometimes of another one.
func randomScript(r *rand.Rand, c gate.Chart, most int) []gate.Input {
	l := append(events(c), "other")
	var out []gate.Input
	for range r.Intn(most + 1) {
		out = append(out, input(l[r.Intn(len(l))], r.Intn(16)))
	}
	return out
}

// The functions below compute by the definitions of the chapter, in other ways than the program.

func events(c gate.Chart) []string {
	var out []string
	for _, t := range c.Transitions {
		if !slices.Contains(out, t.Event) {
			out = append(out, t.Event)
		}
	}
	return out
}

func leaves(c gate.Chart) []int {
	var out []int
	for i := range c.States {
		if !slices.ContainsFunc(c.States, func(s gate.State) bool { return s.Parent == i }) {
			out = append(out, i)
		}
	}
	return out
}

func enter(c gate.Chart, i int) int {
	if slices.Contains(leaves(c), i) {
		return i
	}
	return enter(c, c.States[i].Initial)
}

// isIn reports whether a state is another one, or lies in it.
func isIn(c gate.Chart, i, outer int) bool {
	return i == outer || i >= 0 && isIn(c, c.States[i].Parent, outer)
}

// step returns the leaf to which an input leads, and how many transitions of the innermost state fit.
// Of the states around a leaf, which lie in each other, the innermost one has the greatest index.
func step(c gate.Chart, leaf int, in gate.Input) (int, int) {
	innermost, n, to := -1, 0, leaf
	for _, t := range c.Transitions {
		if t.Event != in.Event || in.Conditions&t.Mask != t.Value || !isIn(c, leaf, t.From) || t.From < innermost {
			continue
		}
		if t.From > innermost {
			innermost, n = t.From, 0
		}
		n++
		to = enter(c, t.To)
	}
	return to, n
}

// allCases returns the cases of leaves, in order, for which something holds: of the leaf to which they lead, and of the number of transitions.
func allCases(c gate.Chart, of []int, holds func(x gate.Case, to, n int) bool) []gate.Case {
	var out []gate.Case
	for _, leaf := range of {
		for _, event := range events(c) {
			for _, x := range cases(leaf, event, every...) {
				if to, n := step(c, leaf, input(event, x.Conditions)); holds(x, to, n) {
					out = append(out, x)
				}
			}
		}
	}
	return out
}

// reachable goes on from the start until nothing is added.
func reachable(c gate.Chart) []int {
	out := []int{enter(c, 0)}
	for n := 0; n != len(out); {
		n = len(out)
		allCases(c, out, func(x gate.Case, to, n int) bool {
			if n == 1 && !slices.Contains(out, to) {
				out = append(out, to)
			}
			return false
		})
	}
	slices.Sort(out)
	return out
}

// distances returns how many inputs lead from each leaf to one of some states: 99 if none do.
func distances(c gate.Chart, states []int) []int {
	out := slices.Repeat(list(99), len(c.States))
	for range c.States {
		allCases(c, leaves(c), func(x gate.Case, to, n int) bool {
			if slices.Contains(states, x.Leaf) {
				out[x.Leaf] = 0
			} else if n == 1 {
				out[x.Leaf] = min(out[x.Leaf], out[to]+1)
			}
			return false
		})
	}
	if start := enter(c, 0); slices.Contains(states, start) {
		out[start] = 0 // also without any case
	}
	return out
}

// trace goes nearer to some states with each input, with the first one that does.
func trace(c gate.Chart, states []int) ([]gate.Input, bool) {
	far := distances(c, states)
	var out []gate.Input
	leaf := enter(c, 0)
	if far[leaf] >= 99 {
		return nil, false
	}
	for far[leaf] > 0 {
		x := allCases(c, list(leaf), func(x gate.Case, to, n int) bool { return n == 1 && far[to] == far[leaf]-1 })[0]
		out = append(out, input(x.Event, x.Conditions))
		leaf, _ = step(c, leaf, input(x.Event, x.Conditions))
	}
	return out, true
}

// play returns the leaf after each number of ticks, from 0 on, and whether no input that comes is ambiguous.
func play(c gate.Chart, l []gate.Input, f gate.Failure) ([]int, bool) {
	leaf, sure := enter(c, 0), true
	out := []int{leaf}
	for tick, in := range l {
		if f.Kind == "stuck" && f.At <= tick {
			in.Conditions = in.Conditions&^(1<<f.Bit) + f.Value<<f.Bit
		}
		if f.Kind != "lost" || f.At != tick {
			to, n := step(c, leaf, in)
			sure = sure && n < 2
			leaf = to
		}
		out = append(out, leaf)
	}
	return out, sure
}

// serves reports whether a script serves a goal with a failure.
func serves(c gate.Chart, l []gate.Input, g gate.Goal, f gate.Failure) bool {
	course, _ := play(c, l, f)
	for _, leaf := range g.Told {
		if k := slices.Index(course, leaf); k >= 0 && k <= g.Earlier {
			return true
		}
	}
	return slices.Contains(g.Closed, course[g.Latest])
}
