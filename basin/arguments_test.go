package basin_test

import (
	"fmt"
	"math"
	"math/rand"
	"slices"
	"testing"

	"tideway/api"
	"tideway/basin"
)

// P1 of DOC.md, and its rules about memory.

// strangeBasins returns basins with everything that they may not be, and some that have no error.
func strangeBasins() []basin.Basin {
	out := []basin.Basin{bb(), most(), withLinks(), deep(link("barrier", -1, 0, 0, 1))}
	for _, n := range []int{math.MinInt, -2, -1, 0, 1, math.MaxInt} {
		for _, kind := range append(basin.Kinds(), "") {
			out = append(out, basin.Basin{Nodes: []basin.Node{node("a", 1, 1), node("b", n, n)}, Links: []basin.Link{link(kind, n, n, n, n)}}, withLinks(link(kind, n, 0, 0, 1)), withLinks(link(kind, 0, n, n, n)))
		}
	}
	for _, bad := range badBasins() {
		out = append(out, bad.b)
	}
	return out
}

func TestNoFunctionPanics(t *testing.T) {
	numbers := []int{math.MinInt, -1025, -1, 0, 1, 2, 100000, 100000000, math.MaxInt}
	calls := 0
	check := func(what string, call func()) {
		defer func() {
			if x := recover(); x != nil {
				t.Errorf("%s: panic %v", what, x)
			}
		}()
		calls++
		call()
	}
	for _, b := range strangeBasins() {
		check("CheckBasin", func() { basin.CheckBasin(b) })
		check("Print", func() { basin.Print(b) })
		for _, n := range numbers {
			for _, v := range [][]int{nil, {n}, {n, 0}, {n, n}, {0, 0, n}} {
				checkNumbers(check, b, v, n)
			}
		}
	}
	checkTexts(check)
	if calls < 10000 {
		t.Errorf("only %d calls", calls)
	}
}

// checkNumbers calls all functions with numbers as volumes, as inflows, as the ends of intervals, and as everything else.
func checkNumbers(check func(what string, call func()), b basin.Basin, v []int, n int) {
	c := condition(n, true, v...)
	l := []basin.Condition{condition(0, true, v...), c, {}}
	x := points(v)
	if len(x) > 1 {
		x[1].Low = n
	}
	r := tides(n, 0, true, x...)
	ranges := []basin.Range{tides(0, 5, false, x...), r, {}}
	check("CheckVolumes", func() { basin.CheckVolumes(b, v) })
	check("CheckCondition", func() { basin.CheckCondition(b, c) })
	check("CheckRange", func() { basin.CheckRange(b, r) })
	check("Levels", func() { basin.Levels(b, v) })
	check("Above", func() { basin.Above(b, v) })
	check("Room", func() { basin.Room(b, v) })
	check("Flows", func() { basin.Flows(b, v, c) })
	check("Step", func() { basin.Step(b, v, c) })
	check("Within", func() { basin.Within(b, r, c) })
	for k := range len(l) + 1 {
		check("Run", func() { basin.Run(b, v, l[:k]) })
		check("Account", func() { basin.Account(b, v, l[:k]) })
		check("First", func() { basin.First(b, v, l[:k]) })
		check("Enclose", func() { basin.Enclose(b, x, ranges[:k]) })
		check("Safe", func() { basin.Safe(b, x, ranges[:k]) })
		check("Latest", func() { basin.Latest(b, x, ranges[:k]) })
		check("Corner", func() { basin.Corner(b, ranges[:k], k%2 == 0) })
	}
	check("Until", func() { basin.Until(b, v, condition(0, true, v...), n, 1) })
	check("Until", func() { basin.Until(b, v, condition(0, true, v...), 0, n) })
	check("Until", func() { basin.Until(b, v, c, n, n) })
}

// checkTexts parses texts of random bytes.
func checkTexts(check func(what string, call func())) {
	r := rand.New(rand.NewSource(81))
	for range 8000 {
		text := []byte(bbText)
		text[r.Intn(len(text))] = byte(r.Intn(256))
		from := r.Intn(len(text))
		check("Parse", func() { basin.Parse(string(text)) })
		check("Parse", func() { basin.Parse(string(text[from:])) })
	}
}

// used is arguments of all functions.
type used struct {
	B          basin.Basin
	V          []int
	Conditions []basin.Condition
	Intervals  []api.Interval
	Ranges     []basin.Range
}

func fresh() used {
	return used{
		B: bb(), V: []int{100, 30}, Conditions: []basin.Condition{condition(16, true, 20, 5), condition(8, false, 0, 0)},
		Intervals: intervals(100, 110, 20, 30), Ranges: []basin.Range{storm(), tides(-4, 4, true, intervals(0, 1, 5, 9)...)},
	}
}

// results returns what all functions say of arguments.
func (x used) results() []any {
	levels, _ := basin.Levels(x.B, x.V)
	above, _ := basin.Above(x.B, []int{210, 45})
	room, _ := basin.Room(x.B, x.V)
	flows, _ := basin.Flows(x.B, x.V, x.Conditions[0])
	step, _ := basin.Step(x.B, x.V, x.Conditions[0])
	run, _ := basin.Run(x.B, x.V, x.Conditions)
	balance, _ := basin.Account(x.B, x.V, x.Conditions)
	basin.First(x.B, x.V, x.Conditions)
	until, _ := basin.Until(x.B, x.V, x.Conditions[0], 0, 15)
	basin.Within(x.B, x.Ranges[0], x.Conditions[0])
	enclosures, _ := basin.Enclose(x.B, x.Intervals, x.Ranges)
	basin.Safe(x.B, x.Intervals, x.Ranges)
	latest, _ := basin.Latest(x.B, x.Intervals, x.Ranges)
	lower, _ := basin.Corner(x.B, x.Ranges, false)
	upper, _ := basin.Corner(x.B, x.Ranges, true)
	text, _ := basin.Print(x.B)
	return []any{levels, above, room, flows, step, run, balance, until, enclosures, latest, lower, upper, text}
}

// spoil overwrites all arguments.
func (x used) spoil() {
	spoilNumbers(x.V)
	for i := range x.Conditions {
		spoilNumbers(x.Conditions[i].Inflow)
		x.Conditions[i] = basin.Condition{Tide: 77}
	}
	spoilIntervals(x.Intervals)
	for i := range x.Ranges {
		spoilIntervals(x.Ranges[i].Inflow)
		x.Ranges[i] = basin.Range{Tide: interval(77, 77)}
	}
	for i := range x.B.Nodes {
		x.B.Nodes[i] = node("spoilt", 77, 77)
	}
	for i := range x.B.Links {
		x.B.Links[i] = link("spoilt", 7, 7, 7, 7)
	}
}

func spoilNumbers(l []int) {
	for i := range l {
		l[i] = 77
	}
}

func spoilIntervals(l []api.Interval) {
	for i := range l {
		l[i] = interval(77, 77)
	}
}

func TestResultsShareNoMemoryWithArguments(t *testing.T) {
	x := fresh()
	results := x.results()
	want(t, "the arguments", x, fresh())
	before := fmt.Sprintf("%+v", results)
	x.spoil()
	want(t, "the results", fmt.Sprintf("%+v", results), before)
	x = fresh()
	for _, result := range x.results() {
		switch l := result.(type) {
		case []int:
			spoilNumbers(l)
		case [][]int:
			for _, volumes := range l {
				spoilNumbers(volumes)
			}
		case [][]api.Interval:
			for _, volumes := range l {
				spoilIntervals(volumes)
			}
		case []basin.Condition:
			for _, c := range l {
				spoilNumbers(c.Inflow)
			}
		}
	}
	want(t, "the arguments behind spoilt results", x, fresh())
	want(t, "the results of a second call", fmt.Sprintf("%+v", x.results()), before)
}

func TestPartsOfResultsShareNoMemory(t *testing.T) {
	x := fresh()
	run, _ := basin.Run(x.B, x.V, x.Conditions)
	enclosures, _ := basin.Enclose(x.B, x.Intervals, x.Ranges)
	corner, _ := basin.Corner(x.B, slices.Repeat(x.Ranges[:1], 2), true)
	before := fmt.Sprint(run[1], enclosures[1], corner[1])
	spoilNumbers(append(run[0], 77))
	spoilIntervals(append(enclosures[0], interval(77, 77)))
	spoilNumbers(append(corner[0].Inflow, 77))
	spoilNumbers(run[0])
	spoilIntervals(enclosures[0])
	spoilNumbers(corner[0].Inflow)
	want(t, "the second elements", fmt.Sprint(run[1], enclosures[1], corner[1]), before)
}

func TestParsedBasinsShareNoMemory(t *testing.T) {
	first, _, _ := basin.Parse(bbText)
	second, _, _ := basin.Parse(bbText)
	used{B: first}.spoil()
	want(t, "Parse", second, bb())
}
