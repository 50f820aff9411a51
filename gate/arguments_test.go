package gate_test

import (
	"fmt"
	"math"
	"math/rand"
	"slices"
	"testing"

	"tideway/api"
	"tideway/gate"
)

// P1 of DOC.md, and its rules about memory.

// strangeCharts returns charts with everything that they may not be, and some that have no error.
func strangeCharts() []gate.Chart {
	out := []gate.Chart{gg(), deep(), ambiguous(), most(), states(1)}
	for _, bad := range badCharts() {
		out = append(out, bad.c)
	}
	for _, n := range []int{math.MinInt, -2, -1, 0, 1, 2, math.MaxInt} {
		for _, m := range []int{math.MinInt, -1, 0, 1, 16, math.MaxInt} {
			out = append(out, gate.Chart{States: []gate.State{state("a", n, m), {Name: "b", Parent: m, Initial: n, Moves: true}}, Transitions: []gate.Transition{move(n, "x", m, n, m), move(m, "x", n, m, n)}})
		}
	}
	return append(out, states(100), gate.Chart{States: make([]gate.State, 3000), Transitions: make([]gate.Transition, 3000)})
}

func TestNoFunctionPanics(t *testing.T) {
	calls := 0
	check := func(what string, call func()) {
		defer func() {
			if x := recover(); x != nil {
				t.Errorf("%s: panic %v", what, x)
			}
		}()
		calls++
		call()
	}
	numbers := []int{math.MinInt, -1, 0, 2, 4, 257, math.MaxInt}
	for _, c := range strangeCharts() {
		for _, n := range numbers {
			checkChart(check, c, n)
		}
	}
	for _, n := range numbers {
		for _, kind := range []string{"none", "lost", "stuck", ""} {
			checkFailures(check, n, kind)
		}
		l := []gate.Command{command(n, 0, "a"), command(1, n, "a"), command(1, 0, "b")}
		for i := range 4 {
			check("Execute", func() { gate.Execute(l[:i]) })
			check("Lost", func() { gate.Lost(l[:i], n) })
			check("Vote", func() { gate.Vote(slices.Repeat(list(n), 5*i)) })
		}
	}
	checkTexts(check)
	if calls < 10000 {
		t.Errorf("only %d calls", calls)
	}
}

// checkChart calls all functions with a chart, and a number as all other ones.
func checkChart(check func(what string, call func()), c gate.Chart, n int) {
	in := input("close", n)
	check("all functions", func() { chartCalls(c, list(n), []gate.Input{in, input("done", 0)}, failure("lost", n)) })
	check("all functions", func() { chartCalls(c, list(n, 3, n), script("close", "done", "go", "x"), failure("stuck", n, n, n)) })
	check("CheckChart", func() { gate.CheckChart(c) })
	check("Step", func() { gate.Step(c, n, script("go")[0]) })
	check("Trace", func() { gate.Trace(c, nil) })
	check("CheckTrace", func() { gate.CheckTrace(c, nil, nil) })
	check("Run", func() { gate.Run(c, nil) })
}

// checkFailures plays scripts of all lengths with a failure.
func checkFailures(check func(what string, call func()), n int, kind string) {
	for _, f := range []gate.Failure{failure(kind), failure(kind, n), failure(kind, 0, n), failure(kind, 1, 1, n), failure(kind, n, n, n)} {
		for _, ticks := range list(0, 1, 2, 64, 65) {
			l := slices.Repeat(script("close"), ticks)
			for _, g := range []gate.Goal{{}, {Closed: list(n), Told: list(n)}, {Latest: n}, {Earlier: n}, {Closed: list(3), Latest: n, Earlier: n}, {Latest: ticks, Earlier: ticks}} {
				check("Serves", func() { gate.Serves(gg(), l, g, f) })
				check("Weak", func() { gate.Weak(gg(), l, g) })
			}
			check("Play", func() { gate.Play(gg(), l, f) })
			check("Failures", func() { gate.Failures(l) })
		}
	}
}

// checkTexts parses texts of random bytes.
func checkTexts(check func(what string, call func())) {
	r := rand.New(rand.NewSource(141))
	for range 4000 {
		text := []byte(ggText)
		text[r.Intn(len(text))] = byte(r.Intn(256))
		from := r.Intn(len(text))
		check("Parse", func() { gate.Parse(string(text)) })
		check("Parse", func() { gate.Parse(string(text[from:])) })
	}
}

// used is arguments of all functions.
type used struct {
	C         gate.Chart
	States    []int
	Trace     []gate.Input
	Script    []gate.Input
	Commands  []gate.Command
	Positions []int
	G         gate.Goal
}

func fresh() used {
	return used{C: gg(), States: list(4, 3), Trace: script("close", "done"), Script: append(script("close", "done"), input("fail", 7)), Commands: example4(), Positions: list(10, 10, 12), G: closed()}
}

// results returns what all functions say of arguments.
func (x used) results() []any {
	checked := gate.CheckChart(x.C)
	leaves, _ := gate.Leaves(x.C)
	names, _ := gate.Events(x.C)
	start, _ := gate.Start(x.C)
	to, _ := gate.Step(x.C, 3, x.Script[2])
	run, _ := gate.Run(x.C, x.Script)
	missing, _ := gate.Missing(x.C)
	more, _ := gate.Ambiguous(ambiguous())
	reached, _ := gate.Reachable(x.C)
	trace, _ := gate.Trace(x.C, x.States[1:])
	proved := gate.CheckTrace(x.C, x.States, x.Trace)
	against, _ := gate.Against(x.C)
	executed, next, _ := gate.Execute(x.Commands)
	lost, _ := gate.Lost(x.Commands, 6)
	vote, _ := gate.Vote(x.Positions)
	failures, _ := gate.Failures(x.Script)
	played, _ := gate.Play(x.C, x.Script, failure("stuck", 1, 0, 1))
	is, _ := gate.Serves(x.C, x.Script, x.G, failure("lost", 1))
	weak, _ := gate.Weak(x.C, x.Script, x.G)
	text, _ := gate.Print(x.C)
	return []any{checked, leaves, names, start, to, run, missing, more, reached, trace, proved, against, executed, next, lost, vote, failures, played, is, weak, text}
}

// fill overwrites everything in a list.
func fill[T any](l []T, x T) {
	for i := range l {
		l[i] = x
	}
}

// spoil overwrites a result.
func spoil(result any) {
	switch l := result.(type) {
	case []int:
		fill(l, 77)
	case []string:
		fill(l, "spoilt")
	case []gate.Case:
		fill(l, gate.Case{Leaf: 77})
	case []gate.Input:
		fill(l, input("spoilt", 77))
	case []gate.Failure:
		fill(l, failure("spoilt", 77))
	case gate.Chart:
		fill(l.States, state("spoilt", 77, 77))
		fill(l.Transitions, move(77, "spoilt", 77, 77, 77))
	}
}

// spoil overwrites all arguments.
func (x used) spoil() {
	for _, argument := range []any{x.C, x.States, x.Trace, x.Script, x.Positions, x.G.Closed, x.G.Told} {
		spoil(argument)
	}
	fill(x.Commands, command(77, 77, "spoilt"))
}

func TestResultsShareNoMemoryWithArguments(t *testing.T) {
	x := fresh()
	results := x.results()
	want(t, "the arguments", x, fresh())
	before := fmt.Sprintf("%+v", results)
	x.spoil()
	want(t, "the results", fmt.Sprintf("%+v", results), before)
	x = fresh()
	for _, result := range x.results() {
		spoil(result)
	}
	want(t, "the arguments behind spoilt results", x, fresh())
	want(t, "the results of a second call", fmt.Sprintf("%+v", x.results()), before)
}

func TestParsedChartsShareNoMemory(t *testing.T) {
	c, _, _ := gate.Parse(ggText)
	spoil(gate.Chart{States: append(c.States[:1], state("spoilt", 7, 7)), Transitions: c.Transitions})
	spoil(c)
	want(t, "what is parsed again", fmt.Sprint(gate.Parse(ggText)), fmt.Sprint(gg(), 0, api.OK))
}
