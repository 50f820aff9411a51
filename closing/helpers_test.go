package closing_test

import (
	"fmt"
	"math"
	"math/rand"
	"reflect"
	"slices"
	"strings"
	"testing"

	"tideway/api"
	"tideway/closing"
)

// rounds is the number of random plans, gates or ships of a test.
const rounds = 300

// want compares what results print as: so nil and empty lists are equal.
func want(t *testing.T, what string, got, wanted any) {
	t.Helper()
	if g, w := fmt.Sprintf("%+v", got), fmt.Sprintf("%+v", wanted); g != w {
		t.Errorf("%s: got %s, want %s", what, g, w)
	}
}

// wantError reports an error that is not the wanted one, and a result beside an error that is not zero.
func wantError(t *testing.T, what string, got any, e, wanted api.Errno) {
	t.Helper()
	want(t, "error of "+what, e, wanted)
	if e != api.OK {
		want(t, what+" beside an error", got, reflect.Zero(reflect.TypeOf(got)).Interface())
	}
}

func list(l ...int) []int {
	return l
}

func phase(name string, least, most int, before ...int) closing.Phase {
	return closing.Phase{Name: name, Least: least, Most: most, Before: before}
}

func ship(name string, arrival, length, side, priority int) closing.Ship {
	return closing.Ship{Name: name, Arrival: arrival, Length: length, Side: side, Priority: priority}
}

// pass returns passages: pairs of a ship and its start.
func pass(l ...int) []closing.Passage {
	var out []closing.Passage
	for pair := range slices.Chunk(l, 2) {
		out = append(out, closing.Passage{Ship: pair[0], Start: pair[1]})
	}
	return out
}

// pp is the plan P of the chapter's examples.
func pp() []closing.Phase {
	return []closing.Phase{phase("crew", 2, 4), phase("ships", 1, 6), phase("lower", 3, 3, 0, 1), phase("seal", 1, 2, 2)}
}

// weak are the gates of the chapter's example 4, which have no order.
func weak() closing.Gates {
	return closing.Gates{Strength: list(5, 5), Load: list(4, 4), Influence: [][]int{{0, -1}, {2, 0}}}
}

// strong are the gates of the same example with an order.
func strong() closing.Gates {
	return changedGates(weak, func(g *closing.Gates) { g.Strength[1] = 6 })
}

// three are gates of which the last one has to be lowered before the first one, and the first one before the second one.
func three() closing.Gates {
	return closing.Gates{Strength: list(3, 5, 9), Load: list(-5, 7, 0), Influence: [][]int{{0, 1, 3}, {-3, 0, -2}, {9, -10, 0}}}
}

// abc are the ships of the chapter's example 5.
func abc() []closing.Ship {
	return []closing.Ship{ship("a", 0, 4, 0, 3), ship("b", 1, 3, 1, 2), ship("c", 2, 3, 0, 2)}
}

// changed is P after a change.
func changed(f func(l []closing.Phase)) []closing.Phase {
	l := pp()
	f(l)
	return l
}

// changedGates is gates after a change.
func changedGates(of func() closing.Gates, f func(g *closing.Gates)) closing.Gates {
	g := of()
	f(&g)
	return g
}

// changedShips is the ships a, b and c after a change.
func changedShips(f func(l []closing.Ship)) []closing.Ship {
	l := abc()
	f(l)
	return l
}

// row is a plan of so many phases without names, one behind the other.
func row(n, least, most int) []closing.Phase {
	var out []closing.Phase
	for i := range n {
		p := phase(fmt.Sprint("r", i), least, most)
		if i > 0 {
			p.Before = list(i - 1)
		}
		out = append(out, p)
	}
	return out
}

// free are so many gates with a strength and a load, and without influences.
func free(n, strength, load int) closing.Gates {
	var g closing.Gates
	for range n {
		g.Strength, g.Load, g.Influence = append(g.Strength, strength), append(g.Load, load), append(g.Influence, make([]int, n))
	}
	return g
}

// fleet are so many ships that are alike.
func fleet(n, length int) []closing.Ship {
	var out []closing.Ship
	for i := range n {
		out = append(out, ship(fmt.Sprint("s", i), 0, length, 0, 1))
	}
	return out
}

// outside returns numbers that are not from low to high.
func outside(low, high int) []int {
	return list(math.MinInt, low-1, high+1, math.MaxInt)
}

var badNames = []string{"", "9", "a b", "_a", "é", "A-", "a\n", strings.Repeat("a", 25)}

// bad is a plan, gates or ships with their first error.
type bad[T any] struct {
	x T
	e api.Errno
}

// defect is a change behind which a plan, gates or ships have an error.
type defect[T any] struct {
	e api.Errno
	f func(x T)
}

// inOrder returns what is made with each defect, and with each two of them: the first one decides.
func inOrder[T any](of func(f func(x T)) T, l ...defect[T]) []bad[T] {
	var out []bad[T]
	for i, a := range l {
		out = append(out, bad[T]{of(a.f), a.e})
		for _, b := range l[i+1:] {
			out = append(out, bad[T]{of(func(x T) { b.f(x); a.f(x) }), a.e})
		}
	}
	return out
}

func badPlans() []bad[[]closing.Phase] {
	many := append(row(16, 1, 2), phase("", -1, 2000, 99))
	out := []bad[[]closing.Phase]{{row(17, 1, 2), api.ErrMany}, {many, api.ErrMany}, {make([]closing.Phase, 17), api.ErrMany}, {make([]closing.Phase, 16), api.ErrName}, {make([]closing.Phase, 5000), api.ErrMany}}
	add := func(e api.Errno, i int, p closing.Phase) {
		out = append(out, bad[[]closing.Phase]{changed(func(l []closing.Phase) { l[i] = p }), e})
	}
	for i := range 4 {
		for _, name := range badNames {
			add(api.ErrName, i, phase(name, -1, -1, -1))
		}
		for _, n := range outside(0, 1000) {
			add(api.ErrRange, i, phase("x", n, 2000, -1))
			add(api.ErrRange, i, phase("x", n, 2, -1))
			add(api.ErrRange, i, phase("x", 3, n, -1))
			add(api.ErrUnknown, i, phase("x", 1, 2, n))
		}
		add(api.ErrRange, i, phase("x", -1, -2, -1))
		add(api.ErrOrder, i, phase("x", 3, 2, -1))
		add(api.ErrOrder, i, phase("x", 1000, 999))
		add(api.ErrUnknown, i, phase("x", 0, 0, -1))
		add(api.ErrUnknown, i, phase("x", 0, 0, i))
		add(api.ErrUnknown, i, phase("x", 0, 0, i+1, 0))
	}
	add(api.ErrTwice, 1, phase("crew", -1, -1, -1))
	add(api.ErrTwice, 3, phase("ships", 2000, 2, 9))
	add(api.ErrOrder, 3, phase("x", 0, 0, 0, 0))
	add(api.ErrOrder, 3, phase("x", 0, 0, 2, 1))
	// Before is examined index by index.
	add(api.ErrOrder, 3, phase("x", 0, 0, 1, 0, 9))
	add(api.ErrUnknown, 3, phase("x", 0, 0, 1, 9, 0))
	add(api.ErrUnknown, 3, phase("x", 0, 0, 1, -1))
	add(api.ErrUnknown, 3, phase("x", 0, 0, 1, 3, 3))
	return append(out, inOrder(changed,
		defect[[]closing.Phase]{api.ErrUnknown, func(l []closing.Phase) { l[0].Before = list(0) }},
		defect[[]closing.Phase]{api.ErrTwice, func(l []closing.Phase) { l[1].Name = "crew" }},
		defect[[]closing.Phase]{api.ErrOrder, func(l []closing.Phase) { l[2].Least = 4 }},
		defect[[]closing.Phase]{api.ErrName, func(l []closing.Phase) { l[3].Name = "" }},
		defect[[]closing.Phase]{api.ErrRange, func(l []closing.Phase) { l[3].Most = 1001 }},
		defect[[]closing.Phase]{api.ErrOrder, func(l []closing.Phase) { l[3].Before = list(1, 1) }},
	)...)
}

func badGates() []bad[*closing.Gates] {
	var out []bad[*closing.Gates]
	of := func(f func(g *closing.Gates)) *closing.Gates {
		g := three()
		f(&g)
		return &g
	}
	add := func(e api.Errno, f func(g *closing.Gates)) {
		out = append(out, bad[*closing.Gates]{of(f), e})
	}
	add(api.ErrEmpty, func(g *closing.Gates) { *g = closing.Gates{} })
	add(api.ErrEmpty, func(g *closing.Gates) { g.Strength = nil })
	add(api.ErrMany, func(g *closing.Gates) { *g = free(9, 5, 5) })
	add(api.ErrMany, func(g *closing.Gates) { g.Strength = make([]int, 9) })
	add(api.ErrMany, func(g *closing.Gates) { g.Strength = make([]int, 3000) })
	add(api.ErrMany, func(g *closing.Gates) { *g = closing.Gates{Strength: slices.Repeat(list(-1), 9)} })
	for _, n := range list(0, 1, 2, 4, 9) {
		add(api.ErrShape, func(g *closing.Gates) { g.Load = slices.Repeat(list(99999), n) })
		add(api.ErrShape, func(g *closing.Gates) { g.Influence = make([][]int, n) })
		add(api.ErrShape, func(g *closing.Gates) { g.Strength[0], g.Influence = -1, make([][]int, n) })
		add(api.ErrShape, func(g *closing.Gates) { g.Strength[2], g.Influence[1] = -1, slices.Repeat(list(99999), n) })
	}
	for i := range 3 {
		for _, n := range outside(0, 10000) {
			add(api.ErrRange, func(g *closing.Gates) { g.Strength[i], g.Load[i], g.Influence[i] = n, 99999, nil })
		}
		for _, n := range outside(-10000, 10000) {
			add(api.ErrRange, func(g *closing.Gates) { g.Load[i], g.Influence[i] = n, nil })
			for j := range 3 {
				add(api.ErrRange, func(g *closing.Gates) { g.Influence[i][i], g.Influence[i][j] = 1, n })
			}
		}
		for _, n := range list(-10000, -1, 1, 10000) {
			add(api.ErrForm, func(g *closing.Gates) { g.Influence[i][i] = n })
		}
	}
	return append(out, inOrder(of,
		defect[*closing.Gates]{api.ErrRange, func(g *closing.Gates) { g.Strength[0] = 10001 }},
		defect[*closing.Gates]{api.ErrForm, func(g *closing.Gates) { g.Influence[0][0] = 1 }},
		defect[*closing.Gates]{api.ErrRange, func(g *closing.Gates) { g.Load[1] = -10001 }},
		defect[*closing.Gates]{api.ErrShape, func(g *closing.Gates) { g.Influence[1] = list(0, 99999) }},
		defect[*closing.Gates]{api.ErrRange, func(g *closing.Gates) { g.Strength[2] = -1 }},
		defect[*closing.Gates]{api.ErrForm, func(g *closing.Gates) { g.Influence[2][2] = 1 }},
	)...)
}

func badShips() []bad[[]closing.Ship] {
	many := append(fleet(8, 1), ship("", -1, -1, -1, -1))
	out := []bad[[]closing.Ship]{{fleet(9, 1), api.ErrMany}, {many, api.ErrMany}, {make([]closing.Ship, 9), api.ErrMany}, {make([]closing.Ship, 8), api.ErrName}, {make([]closing.Ship, 3000), api.ErrMany}}
	add := func(e api.Errno, i int, s closing.Ship) {
		out = append(out, bad[[]closing.Ship]{changedShips(func(l []closing.Ship) { l[i] = s }), e})
	}
	for i := range 3 {
		for _, name := range badNames {
			add(api.ErrName, i, ship(name, -1, -1, -1, -1))
		}
		for _, n := range outside(0, 100000) {
			add(api.ErrRange, i, ship("x", n, 3, 1, 2))
		}
		for _, n := range outside(1, 1000) {
			add(api.ErrRange, i, ship("x", 0, n, 1, 2))
			add(api.ErrRange, i, ship("x", 0, 3, 1, n))
		}
		for _, n := range outside(0, 1) {
			add(api.ErrRange, i, ship("x", 0, 3, n, 2))
		}
	}
	add(api.ErrTwice, 1, ship("a", -1, -1, -1, -1))
	add(api.ErrTwice, 2, ship("a", 0, 0, 0, 0))
	return append(out, inOrder(changedShips,
		defect[[]closing.Ship]{api.ErrRange, func(l []closing.Ship) { l[0].Arrival = -1 }},
		defect[[]closing.Ship]{api.ErrTwice, func(l []closing.Ship) { l[1].Name = "a" }},
		defect[[]closing.Ship]{api.ErrRange, func(l []closing.Ship) { l[1].Side = 2 }},
		defect[[]closing.Ship]{api.ErrName, func(l []closing.Ship) { l[2].Name = "c-" }},
		defect[[]closing.Ship]{api.ErrRange, func(l []closing.Ship) { l[2].Priority = 0 }},
	)...)
}

// randomPlan returns a plan with so many phases at most, whose durations are at most a number.
func randomPlan(r *rand.Rand, most, duration int) []closing.Phase {
	var out []closing.Phase
	for i := range r.Intn(most + 1) {
		least, greatest := r.Intn(duration+1), r.Intn(duration+1)
		if r.Intn(4) == 0 {
			least = greatest
		}
		p := phase(fmt.Sprint("p", i), min(least, greatest), max(least, greatest))
		for before := range i {
			if r.Intn(min(i, 4)) == 0 {
				p.Before = append(p.Before, before)
			}
		}
		out = append(out, p)
	}
	return out
}

// randomGates returns gates, so many at most, some of which have an order.
func randomGates(r *rand.Rand, most int) closing.Gates {
	g := free(1+r.Intn(most), 0, 0)
	for i := range g.Strength {
		g.Strength[i], g.Load[i] = 3+r.Intn(8), r.Intn(15)-7
		for j := range g.Influence[i] {
			if i != j && r.Intn(3) > 0 {
				g.Influence[i][j] = r.Intn(9) - 4
			}
		}
	}
	return g
}

// randomShips returns ships, so many at most.
func randomShips(r *rand.Rand, most int) []closing.Ship {
	var out []closing.Ship
	for i := range r.Intn(most + 1) {
		out = append(out, ship(fmt.Sprint("s", i), r.Intn(8), 1+r.Intn(4), r.Intn(2), 1+r.Intn(3)))
	}
	return out
}

// The functions below compute by the definitions of the chapter, in other ways than the program.

// chains returns all chains of a plan, but the empty one.
func chains(l []closing.Phase) [][]int {
	var out [][]int
	for i, p := range l {
		longer := [][]int{list(i)}
		for _, chain := range out {
			if slices.Contains(p.Before, chain[len(chain)-1]) {
				longer = append(longer, append(slices.Clone(chain), i))
			}
		}
		out = append(out, longer...)
	}
	return out
}

// sum returns the sum of durations along a chain.
func sum(durations, chain []int) int {
	out := 0
	for _, i := range chain {
		out += durations[i]
	}
	return out
}

// leasts and mosts return the durations of phases.
func leasts(l []closing.Phase) []int {
	var out []int
	for _, p := range l {
		out = append(out, p.Least)
	}
	return out
}

func mosts(l []closing.Phase) []int {
	var out []int
	for _, p := range l {
		out = append(out, p.Most)
	}
	return out
}

// simulate lets phases take durations, tick by tick, none of them starting before a tick of its own. It returns their starts and their ends.
func simulate(l []closing.Phase, durations, notBefore []int) ([]int, []int) {
	starts, ends := slices.Repeat(list(-1), len(l)), slices.Repeat(list(-1), len(l))
	for tick, left := 0, len(l); left > 0; tick++ {
		for i, p := range l {
			waits := func(before int) bool { return ends[before] < 0 }
			if starts[i] < 0 && tick >= notBefore[i] && !slices.ContainsFunc(p.Before, waits) {
				starts[i] = tick
			}
			if starts[i] >= 0 && ends[i] < 0 && tick == starts[i]+durations[i] {
				ends[i] = tick
				left--
			}
		}
	}
	return starts, ends
}

// last returns the greatest number, or 0.
func last(l []int) int {
	return slices.Max(append(list(0), l...))
}

// isPermitted reports whether gates bear it if those of a list are down.
func isPermitted(g closing.Gates, down []int) bool {
	for _, gate := range down {
		force := g.Load[gate]
		for _, other := range down {
			force += g.Influence[gate][other]
		}
		if force > g.Strength[gate] || force < -g.Strength[gate] {
			return false
		}
	}
	return true
}

// members returns the numbers of a set.
func members(set int) []int {
	var out []int
	for i := 0; set > 0; i++ {
		if set%2 == 1 {
			out = append(out, i)
		}
		set /= 2
	}
	return out
}

// setOf returns the set of numbers.
func setOf(l []int) int {
	out := 0
	for _, i := range l {
		out += 1 << i
	}
	return out
}

// arrangements returns all lists of numbers below n without repetitions, in order; a list that is the beginning of others comes before them.
func arrangements(n int) [][]int {
	out := [][]int{nil}
	for length, from := 0, 0; length < n; length++ {
		to := len(out)
		for _, l := range out[from:to] {
			for i := range n {
				if !slices.Contains(l, i) {
					out = append(out, append(slices.Clone(l), i))
				}
			}
		}
		from = to
	}
	slices.SortFunc(out, slices.Compare)
	return out
}

// earliest returns passages of ships one after the other, each one as early as it can be.
func earliest(l []closing.Ship, turn int, ships []int) []closing.Passage {
	var out []closing.Passage
	for i, s := range ships {
		start := l[s].Arrival
		if i > 0 {
			before := out[i-1]
			free := before.Start + l[before.Ship].Length + turn*max(l[s].Side-l[before.Ship].Side, l[before.Ship].Side-l[s].Side)
			start = max(start, free)
		}
		out = append(out, closing.Passage{Ship: s, Start: start})
	}
	return out
}

// lastEnd returns the end of the last one of passages, or 0.
func lastEnd(l []closing.Ship, p []closing.Passage) int {
	if len(p) == 0 {
		return 0
	}
	x := p[len(p)-1]
	return x.Start + l[x.Ship].Length
}

// priority returns the sum of the priorities of ships.
func priority(l []closing.Ship, ships []int) int {
	out := 0
	for _, s := range ships {
		out += l[s].Priority
	}
	return out
}
