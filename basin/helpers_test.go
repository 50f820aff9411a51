package basin_test

import (
	"fmt"
	"math"
	"math/rand"
	"reflect"
	"slices"
	"strings"
	"testing"

	"tideway/api"
	"tideway/basin"
)

// want compares what results print as: so nil and empty lists are equal.
func want(t *testing.T, what string, got, wanted any) {
	t.Helper()
	if g, w := fmt.Sprintf("%+v", got), fmt.Sprintf("%+v", wanted); g != w {
		t.Errorf("%s: got %s, want %s", what, g, w)
	}
}

// wantError reports an error that is not the wanted one, and a result beside an error that is not zero.
func wantError(t *testing.T, what string, got any, e, wanted api.Errno) {
	t.Helper()
	want(t, "error of "+what, e, wanted)
	if e != api.OK {
		want(t, what+" beside an error", got, reflect.Zero(reflect.TypeOf(got)).Interface())
	}
}

// bb is the basin B of the chapter's examples.
func bb() basin.Basin {
	return basin.Basin{Nodes: []basin.Node{node("lake", 10, 20), node("polder", 5, 8)}, Links: []basin.Link{
		link("barrier", -1, 0, 0, 2), link("pump", 1, 0, 4, 10), link("outfall", 0, -1, 12, 4),
	}}
}

func node(name string, area, limit int) basin.Node {
	return basin.Node{Name: name, Area: area, Limit: limit}
}

func link(kind string, from, to, at, rate int) basin.Link {
	return basin.Link{Kind: kind, From: from, To: to, At: at, Rate: rate}
}

func condition(tide int, open bool, inflow ...int) basin.Condition {
	return basin.Condition{Tide: tide, Open: open, Inflow: inflow}
}

func interval(low, high int) api.Interval {
	return api.Interval{Low: low, High: high}
}

// intervals returns the intervals between a lower and an upper end each.
func intervals(ends ...int) []api.Interval {
	var out []api.Interval
	for pair := range slices.Chunk(ends, 2) {
		out = append(out, interval(pair[0], pair[1]))
	}
	return out
}

func tides(low, high int, open bool, inflow ...api.Interval) basin.Range {
	return basin.Range{Tide: interval(low, high), Open: open, Inflow: inflow}
}

// most is a basin with as many nodes and links as there may be, each number of which is as large as it may be.
func most() basin.Basin {
	var b basin.Basin
	for i := range 8 {
		b.Nodes = append(b.Nodes, node(strings.Repeat(string(rune('a'+i)), 24), 1000, 1024))
	}
	for i := range 16 {
		b.Links = append(b.Links, link("outfall", i%8, -1, 1024, 1000))
	}
	return b
}

// changed is B after a change.
func changed(f func(b *basin.Basin)) basin.Basin {
	b := bb()
	f(&b)
	return b
}

func withNode(i int, n basin.Node) basin.Basin {
	return changed(func(b *basin.Basin) { b.Nodes[i] = n })
}

func withLinks(l ...basin.Link) basin.Basin {
	return changed(func(b *basin.Basin) { b.Links = l })
}

// badBasin is a basin with its first error.
type badBasin struct {
	b basin.Basin
	e api.Errno
}

func badNodes() []badBasin {
	out := []badBasin{
		{basin.Basin{}, api.ErrEmpty}, {basin.Basin{Links: make([]basin.Link, 17)}, api.ErrEmpty}, {changed(func(b *basin.Basin) { b.Nodes = nil }), api.ErrEmpty},
		{basin.Basin{Nodes: make([]basin.Node, 9)}, api.ErrMany}, {changed(func(b *basin.Basin) { b.Nodes = slices.Concat(most().Nodes, b.Nodes[:1]) }), api.ErrMany},
		{basin.Basin{Nodes: make([]basin.Node, 8)}, api.ErrName},
		{withNode(0, node("", 10, 20)), api.ErrName}, {withNode(1, node("9", 0, -1)), api.ErrName}, {withNode(1, node("a b", 1, 1)), api.ErrName}, {withNode(1, node("_a", 1, 1)), api.ErrName}, {withNode(1, node("é", 1, 1)), api.ErrName}, {withNode(1, node(strings.Repeat("a", 25), 1, 1)), api.ErrName},
		{withNode(1, node("lake", 10, 20)), api.ErrTwice}, {withNode(1, node("lake", 0, -1)), api.ErrTwice}, {basin.Basin{Nodes: []basin.Node{node("a", 1, 1), node("b", 1, 1), node("a", 1, 1), node("9", 1, 1)}}, api.ErrTwice},
		{basin.Basin{Nodes: []basin.Node{node("9", 1, 1), node("9", 1, 1)}}, api.ErrName}, {basin.Basin{Nodes: []basin.Node{node("a", 0, 1), node("9", 1, 1)}}, api.ErrRange}, {basin.Basin{Nodes: []basin.Node{node("a", 1, 1025), node("a", 1, 1)}}, api.ErrRange},
	}
	for _, n := range []int{math.MinInt, -1, 0, 1001, math.MaxInt} {
		out = append(out, badBasin{withNode(0, node("lake", n, 20)), api.ErrRange}, badBasin{withNode(1, node("x", n, 20)), api.ErrRange})
	}
	for _, n := range []int{math.MinInt, -1, 1025, math.MaxInt} {
		out = append(out, badBasin{withNode(0, node("lake", 10, n)), api.ErrRange}, badBasin{withNode(1, node("x", 10, n)), api.ErrRange})
	}
	return append(out,
		badBasin{changed(func(b *basin.Basin) { b.Nodes[1].Area, b.Links = 0, make([]basin.Link, 17) }), api.ErrRange},
		badBasin{changed(func(b *basin.Basin) { b.Nodes[1].Name, b.Links = "", make([]basin.Link, 1) }), api.ErrName},
	)
}

func badLinks() []badBasin {
	good := link("weir", 0, 1, 0, 1)
	out := []badBasin{
		{withLinks(make([]basin.Link, 17)...), api.ErrMany}, {withLinks(slices.Repeat([]basin.Link{good}, 17)...), api.ErrMany},
		{withLinks(link("", -1, 0, 0, 1)), api.ErrKind}, {withLinks(link("Pump", 1, 0, 0, 1)), api.ErrKind}, {withLinks(link("pumps", 1, 0, 0, 1)), api.ErrKind}, {withLinks(link("node", 1, 0, 0, 1)), api.ErrKind}, {withLinks(link("sluice", 9, 9, -1, 0)), api.ErrKind}, {withLinks(good, link("weir ", 1, 0, 0, 1)), api.ErrKind},
		{withLinks(good, good, link("weir", 0, 0, -1, 0), link("", 0, 1, 0, 1)), api.ErrRing}, {withLinks(link("", 0, 0, 0, 1), link("weir", 2, 0, 0, 1)), api.ErrKind}, {withLinks(link("weir", 0, 1, 1025, 1), link("weir", 0, 0, 0, 1)), api.ErrRange},
		{withLinks(link("pump", 0, 0, -1, 0)), api.ErrRing}, {withLinks(link("weir", 1, 1, 0, 1)), api.ErrRing}, {withLinks(link("pump", 2, 2, 0, 1)), api.ErrUnknown}, {withLinks(link("pump", -1, -1, 0, 1)), api.ErrUnknown}, {withLinks(link("weir", -1, -1, 0, 1)), api.ErrUnknown},
		{withLinks(link("barrier", -1, 0, 1, 1)), api.ErrRange}, {withLinks(link("leak", -1, 0, 1, 1)), api.ErrRange}, {withLinks(link("barrier", -1, 0, 1024, 1)), api.ErrRange}, {withLinks(link("leak", -1, 1, -1, 1)), api.ErrRange}, {withLinks(link("barrier", 0, -1, 0, 1)), api.ErrUnknown}, {withLinks(link("outfall", -1, 0, 0, 1)), api.ErrUnknown},
		{withLinks(link("barrier", -1, -1, 0, 1)), api.ErrUnknown}, {withLinks(link("leak", -1, -1, 0, 1)), api.ErrUnknown}, {withLinks(link("outfall", -1, -1, 0, 1)), api.ErrUnknown}, {withLinks(link("barrier", 0, 0, 0, 1)), api.ErrUnknown},
	}
	for _, n := range []int{math.MinInt, -2, 2, math.MaxInt} {
		out = append(out,
			badBasin{withLinks(link("barrier", n, 0, 0, 1)), api.ErrUnknown}, badBasin{withLinks(link("barrier", -1, n, 2, 0)), api.ErrUnknown},
			badBasin{withLinks(link("leak", n, 0, 0, 1)), api.ErrUnknown}, badBasin{withLinks(link("leak", -1, n, 2, 0)), api.ErrUnknown},
			badBasin{withLinks(link("outfall", n, -1, 2, 0)), api.ErrUnknown}, badBasin{withLinks(link("outfall", 0, n, 0, 1)), api.ErrUnknown},
		)
	}
	for _, n := range []int{math.MinInt, -2, -1, 2, math.MaxInt} {
		for _, kind := range []string{"pump", "weir"} {
			out = append(out, badBasin{withLinks(link(kind, n, 0, -1, 0)), api.ErrUnknown}, badBasin{withLinks(link(kind, 0, n, -1, 0)), api.ErrUnknown})
		}
	}
	for _, n := range []int{0, 1} {
		out = append(out, badBasin{withLinks(link("barrier", n, 1-n, 0, 1)), api.ErrUnknown}, badBasin{withLinks(link("leak", n, 1-n, 0, 1)), api.ErrUnknown}, badBasin{withLinks(link("outfall", n, 1-n, 0, 1)), api.ErrUnknown})
	}
	return append(out, badNumbers()...)
}

// badNumbers are basins with an At or a Rate that is not in its range.
func badNumbers() []badBasin {
	var out []badBasin
	for _, l := range []basin.Link{link("barrier", -1, 0, 0, 1), link("leak", -1, 0, 0, 1), link("outfall", 0, -1, 5, 1), link("pump", 0, 1, 5, 1), link("weir", 1, 0, 5, 1)} {
		for _, n := range []int{math.MinInt, -1, 1025, math.MaxInt} {
			at := l
			at.At = n
			out = append(out, badBasin{withLinks(at), api.ErrRange})
		}
		for _, n := range []int{math.MinInt, -1, 0, 1001, math.MaxInt} {
			rate := l
			rate.Rate = n
			out = append(out, badBasin{withLinks(rate), api.ErrRange}, badBasin{withLinks(l, rate), api.ErrRange})
		}
	}
	return out
}

func badBasins() []badBasin {
	return append(badNodes(), badLinks()...)
}

// badList is numbers of the nodes of B with their first error.
type badList struct {
	l []int
	e api.Errno
}

// badLists returns lists of numbers that are not from 0 to most, or not as many as B has nodes.
func badLists(most int) []badList {
	out := []badList{{nil, api.ErrShape}, {[]int{-1}, api.ErrShape}, {[]int{0, 0, most + 1}, api.ErrShape}}
	for _, n := range []int{math.MinInt, -1, most + 1, math.MaxInt} {
		out = append(out, badList{[]int{n, 0}, api.ErrRange}, badList{[]int{0, n}, api.ErrRange})
	}
	return out
}

// badCondition is a condition of B with its first error.
type badCondition struct {
	c basin.Condition
	e api.Errno
}

func badConditions() []badCondition {
	var out []badCondition
	for _, bad := range badLists(100000) {
		out = append(out, badCondition{condition(16, true, bad.l...), bad.e}, badCondition{condition(-1024, false, bad.l...), bad.e})
	}
	for _, n := range []int{math.MinInt, -1025, 1025, math.MaxInt} {
		out = append(out, badCondition{condition(n, true, 0, 0), api.ErrRange}, badCondition{condition(n, true), api.ErrRange})
	}
	return out
}

// badInterval is an interval with its first error.
type badInterval struct {
	x api.Interval
	e api.Errno
}

// badIntervals returns intervals that are not from low to high.
func badIntervals(low, high int) []badInterval {
	out := []badInterval{{interval(high, low), api.ErrOrder}, {interval(low+1, low), api.ErrOrder}, {interval(high, high-1), api.ErrOrder}}
	for _, n := range []int{math.MinInt, low - 1, high + 1, math.MaxInt} {
		out = append(out, badInterval{interval(n, low), api.ErrRange}, badInterval{interval(n, high), api.ErrRange}, badInterval{interval(low, n), api.ErrRange}, badInterval{interval(high, n), api.ErrRange}, badInterval{interval(n, n), api.ErrRange})
	}
	return out
}

// badPair is intervals of the nodes of B with their first error.
type badPair struct {
	l []api.Interval
	e api.Errno
}

func badPairs(most int) []badPair {
	good, wrong := interval(0, most), interval(5, 4)
	out := []badPair{{nil, api.ErrShape}, {[]api.Interval{wrong}, api.ErrShape}, {[]api.Interval{good, good, wrong}, api.ErrShape}}
	for _, bad := range badIntervals(0, most) {
		out = append(out, badPair{[]api.Interval{bad.x, wrong}, bad.e}, badPair{[]api.Interval{good, bad.x}, bad.e})
	}
	return append(out, badPair{[]api.Interval{wrong, interval(-1, 0)}, api.ErrOrder})
}

// badRange is a range of B with its first error.
type badRange struct {
	r basin.Range
	e api.Errno
}

func badRanges() []badRange {
	var out []badRange
	for _, bad := range badPairs(100000) {
		out = append(out, badRange{tides(-1024, 1024, true, bad.l...), bad.e}, badRange{tides(7, 7, false, bad.l...), bad.e})
	}
	for _, bad := range badIntervals(-1024, 1024) {
		out = append(out, badRange{basin.Range{Tide: bad.x}, bad.e}, badRange{basin.Range{Tide: bad.x, Open: true, Inflow: intervals(0, 0, -1, 0)}, bad.e})
	}
	return out
}

// badConditionList is conditions of B with their first error.
type badConditionList struct {
	l []basin.Condition
	e api.Errno
}

func badConditionLists() []badConditionList {
	good := condition(16, true, 20, 5)
	out := []badConditionList{{make([]basin.Condition, 97), api.ErrMany}, {slices.Repeat([]basin.Condition{good}, 97), api.ErrMany}, {make([]basin.Condition, 96), api.ErrShape}}
	for _, bad := range badConditions() {
		out = append(out, badConditionList{[]basin.Condition{bad.c, {Tide: 1025}}, bad.e}, badConditionList{[]basin.Condition{good, bad.c, {}}, bad.e})
	}
	return out
}

// badRangeList is ranges of B with their first error.
type badRangeList struct {
	l []basin.Range
	e api.Errno
}

func badRangeLists() []badRangeList {
	good := tides(8, 16, true, intervals(0, 50, 0, 0)...)
	out := []badRangeList{{make([]basin.Range, 97), api.ErrMany}, {slices.Repeat([]basin.Range{good}, 97), api.ErrMany}, {make([]basin.Range, 96), api.ErrShape}}
	for _, bad := range badRanges() {
		out = append(out, badRangeList{[]basin.Range{bad.r, {Tide: interval(1025, 0)}}, bad.e}, badRangeList{[]basin.Range{good, bad.r, {}}, bad.e})
	}
	return out
}

// randomBasin returns a basin with up to n nodes.
func randomBasin(r *rand.Rand, n int) basin.Basin {
	var b basin.Basin
	count := 1 + r.Intn(n)
	for i := range count {
		b.Nodes = append(b.Nodes, node(string(rune('a'+i)), 1+r.Intn(12), r.Intn(30)))
	}
	for range r.Intn(9) {
		from := r.Intn(count)
		to := (from + 1 + r.Intn(max(count-1, 1))) % count
		switch kind := r.Intn(5); {
		case kind == 0:
			b.Links = append(b.Links, link("barrier", -1, to, 0, 1+r.Intn(4)))
		case kind == 1:
			b.Links = append(b.Links, link("leak", -1, to, 0, 1+r.Intn(9)))
		case kind == 2 || count == 1:
			b.Links = append(b.Links, link("outfall", from, -1, r.Intn(20), 1+r.Intn(4)))
		case kind == 3:
			b.Links = append(b.Links, link("pump", from, to, r.Intn(20), 1+r.Intn(20)))
		default:
			b.Links = append(b.Links, link("weir", from, to, r.Intn(20), 1+r.Intn(4)))
		}
	}
	return b
}

// randomNumbers returns n numbers from 0 to most.
func randomNumbers(r *rand.Rand, n, most int) []int {
	out := make([]int, n)
	for i := range out {
		out[i] = r.Intn(most + 1)
	}
	return out
}

// randomVolumes returns volumes of a basin, among which are some as large as they may be.
func randomVolumes(r *rand.Rand, b basin.Basin) []int {
	out := randomNumbers(r, len(b.Nodes), 300)
	if r.Intn(4) == 0 {
		out[r.Intn(len(out))] = 100000000 - r.Intn(30)
	}
	return out
}

func randomCondition(r *rand.Rand, b basin.Basin) basin.Condition {
	return condition(r.Intn(45)-15, r.Intn(2) == 0, randomNumbers(r, len(b.Nodes), 30)...)
}

func randomConditions(r *rand.Rand, b basin.Basin, n int) []basin.Condition {
	var out []basin.Condition
	for range n {
		out = append(out, randomCondition(r, b))
	}
	return out
}

// randomIntervals returns n intervals from 0 on, with lower ends up to most, that have at most width + 1 numbers.
func randomIntervals(r *rand.Rand, n, most, width int) []api.Interval {
	var out []api.Interval
	for _, low := range randomNumbers(r, n, most) {
		out = append(out, interval(low, low+r.Intn(width+1)))
	}
	return out
}

// randomRanges returns n ranges, the intervals of which have at most width + 1 numbers.
func randomRanges(r *rand.Rand, b basin.Basin, n, width int) []basin.Range {
	var out []basin.Range
	for range n {
		low := r.Intn(45) - 15
		out = append(out, tides(low, low+r.Intn(width+1), r.Intn(2) == 0, randomIntervals(r, len(b.Nodes), 30, width)...))
	}
	return out
}

// chosen returns a number of an interval.
func chosen(r *rand.Rand, x api.Interval) int {
	return x.Low + r.Intn(x.High-x.Low+1)
}

// permitted returns a condition that a range permits.
func permitted(r *rand.Rand, x basin.Range) basin.Condition {
	c := condition(chosen(r, x.Tide), x.Open)
	for _, inflow := range x.Inflow {
		c.Inflow = append(c.Inflow, chosen(r, inflow))
	}
	return c
}

// The functions below compute by the definitions of the chapter, in other ways than the program.

// down returns a quotient that is rounded down: its numbers are small enough for that to be exact.
func down(num, den int) int {
	return int(math.Floor(float64(num) / float64(den)))
}

// flowed returns the flow of a link.
func flowed(b basin.Basin, v []int, c basin.Condition, l basin.Link) int {
	switch l.Kind {
	case "barrier":
		if c.Open {
			return max(down(b.Nodes[l.To].Area*c.Tide-v[l.To], l.Rate), -v[l.To])
		}
	case "leak":
		return max(down(b.Nodes[l.To].Area*c.Tide-v[l.To], l.Rate), 0)
	case "outfall":
		return max(down(v[l.From]-b.Nodes[l.From].Area*max(c.Tide, l.At), l.Rate), 0)
	case "pump":
		return max(min(v[l.From]-b.Nodes[l.From].Area*l.At, l.Rate), 0)
	case "weir":
		return max(down(v[l.From]-b.Nodes[l.From].Area*l.At, l.Rate), 0)
	}
	return 0
}

// stepped returns the flows of a step, the volumes behind it, and whether none is too large on the way.
func stepped(b basin.Basin, v []int, c basin.Condition) ([]int, []int, bool) {
	var flows, out []int
	fits := true
	for i := range v {
		out = append(out, v[i]+c.Inflow[i])
		fits = fits && out[i] <= 100000000
	}
	for _, l := range b.Links {
		flow := flowed(b, out, c, l)
		flows = append(flows, flow)
		for i := range out {
			if l.From == i {
				out[i] -= flow
			}
			if l.To == i {
				out[i] += flow
			}
			fits = fits && out[i] <= 100000000
		}
	}
	return flows, out, fits
}

// ran returns the volumes behind all steps, and whether none is too large on the way.
func ran(b basin.Basin, v []int, l []basin.Condition) ([][]int, bool) {
	var out [][]int
	fits := true
	for _, c := range l {
		_, next, ok := stepped(b, v, c)
		fits = fits && ok
		out = append(out, next)
		v = next
	}
	return out, fits
}

// highest returns the first step behind which a level is above its limit, and its node; -1 and 0 if there is none.
func highest(b basin.Basin, run [][]int) (int, int) {
	for tick, v := range run {
		for i, n := range b.Nodes {
			if down(v[i], n.Area) > n.Limit {
				return tick, i
			}
		}
	}
	return -1, 0
}

// each calls f with every choice of one number of each interval.
func each(l []api.Interval, f func(numbers []int)) {
	if len(l) == 0 {
		f(nil)
		return
	}
	last := l[len(l)-1]
	each(l[:len(l)-1], func(numbers []int) {
		for n := last.Low; n <= last.High; n++ {
			f(append(slices.Clone(numbers), n))
		}
	})
}

// reached returns all volumes of a basin with two nodes that there may be behind each step, and whether none is too large on the way.
func reached(b basin.Basin, v []api.Interval, l []basin.Range) ([]map[[2]int]bool, bool) {
	now := map[[2]int]bool{}
	each(v, func(numbers []int) { now[[2]int(numbers)] = true })
	fits := true
	var out []map[[2]int]bool
	for _, r := range l {
		next := map[[2]int]bool{}
		each(append([]api.Interval{r.Tide}, r.Inflow...), func(numbers []int) {
			c := condition(numbers[0], r.Open, numbers[1:]...)
			for volumes := range now {
				_, behind, ok := stepped(b, volumes[:], c)
				next[[2]int(behind)] = true
				fits = fits && ok
			}
		})
		out = append(out, next)
		now = next
	}
	return out, fits
}
