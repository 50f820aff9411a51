package closing_test

import (
	"fmt"
	"math"
	"math/rand"
	"slices"
	"testing"

	"tideway/api"
	"tideway/closing"
)

// P1 of DOC.md, and its rules about memory.

// strange are numbers that are too small, good, or too large.
func strange() []int {
	return list(math.MinInt, -1, 0, 1, 2, 7, 64, 1000, math.MaxInt)
}

// strangePlans returns plans with everything that they may not be, and some that have no error.
func strangePlans() [][]closing.Phase {
	out := [][]closing.Phase{nil, pp(), row(16, 1000, 1000), row(100, 1, 2), make([]closing.Phase, 3000)}
	for _, bad := range badPlans() {
		out = append(out, bad.x)
	}
	for _, n := range strange() {
		for _, m := range strange() {
			out = append(out, []closing.Phase{phase("a", n, m), phase("b", 0, 1, n), phase("c", 1, 1, n, m), phase("d", 2, n, 0, 1, m)})
		}
	}
	return out
}

// strangeGates likewise returns gates.
func strangeGates() []closing.Gates {
	out := []closing.Gates{weak(), strong(), three(), detour(), free(8, 5, 5), free(8, 0, 1), free(70, 5, 5), {Strength: make([]int, 3000), Load: make([]int, 3000), Influence: make([][]int, 3000)}, {Load: list(1)}, {Influence: [][]int{{0}}}}
	for _, bad := range badGates() {
		out = append(out, *bad.x)
	}
	for _, n := range strange() {
		for _, m := range strange() {
			out = append(out, closing.Gates{Strength: list(n, 5), Load: list(m, n), Influence: [][]int{{0, n}, {m, 0}}}, closing.Gates{Strength: list(5), Load: list(n), Influence: [][]int{{m}}})
		}
	}
	return out
}

// strangeShips likewise returns ships.
func strangeShips() [][]closing.Ship {
	out := [][]closing.Ship{nil, abc(), fleet(5, 3), fleet(100, 3), make([]closing.Ship, 3000)}
	for _, bad := range badShips() {
		out = append(out, bad.x)
	}
	for _, n := range strange() {
		out = append(out, []closing.Ship{ship("a", n, 1, 0, 1), ship("b", 1, n, 1, 2)}, []closing.Ship{ship("a", 1, 1, n, 1), ship("b", 0, 1, 1, n)})
	}
	return out
}

func TestNoFunctionPanics(t *testing.T) {
	calls := 0
	check := func(what string, call func()) {
		defer func() {
			if x := recover(); x != nil {
				t.Errorf("%s: panic %v", what, x)
			}
		}()
		calls++
		call()
	}
	for _, n := range strange() {
		lists := [][]int{nil, list(n), list(0, n), list(n, 1), list(0, 1, n, 3), slices.Repeat(list(n), 16), slices.Repeat(list(n), 70)}
		for _, l := range lists {
			for _, x := range strangePlans() {
				check("the functions of plans", func() { planCalls(x, n, l) })
				check("Verdict", func() { closing.Verdict(x, 12, l, n) })
			}
			for _, g := range strangeGates() {
				check("the functions of gates", func() { gateCalls(g, n, l) })
				check("Force", func() { closing.Force(g, n, 0) })
			}
			for _, x := range strangeShips() {
				var p []closing.Passage
				for i, number := range l {
					p = append(p, closing.Passage{Ship: i % 4, Start: number}, closing.Passage{Ship: number, Start: 5 * i})
				}
				check("the functions of ships", func() { shipCalls(x, n, n, p) })
				check("CheckPassages", func() { closing.CheckPassages(x, 1, api.MaxTime, p) })
			}
		}
	}
	checkTexts(check)
	if calls < 10000 {
		t.Errorf("only %d calls", calls)
	}
}

// checkTexts parses texts of random bytes.
func checkTexts(check func(what string, call func())) {
	r := rand.New(rand.NewSource(331))
	for range 4000 {
		text := []byte(ppText)
		text[r.Intn(len(text))] = byte(r.Intn(256))
		from := r.Intn(len(text))
		check("Parse", func() { closing.Parse(string(text)) })
		check("Parse", func() { closing.Parse(string(text[from:])) })
	}
}

// used is arguments of all functions.
type used struct {
	Plan          []closing.Phase
	Done          []int
	Weak, Three   closing.Gates
	Order, Family []int
	Ships         []closing.Ship
	Passages      []closing.Passage
}

func fresh() used {
	return used{Plan: pp(), Done: list(2, 5, -1, -1), Weak: weak(), Three: three(), Order: list(2, 0, 1), Family: list(0, 1, 2), Ships: abc(), Passages: pass(0, 0, 1, 5)}
}

// results returns what all functions say of arguments.
func (x used) results() []any {
	short, _ := closing.Times(x.Plan, false)
	long, _ := closing.Times(x.Plan, true)
	duration, _ := closing.Duration(x.Plan)
	critical, _ := closing.Critical(x.Plan)
	latest, _ := closing.Latest(x.Plan, 12)
	slack, _ := closing.Slack(x.Plan, 12)
	fatal, _ := closing.Fatal(x.Plan, 12)
	verdict, _ := closing.Verdict(x.Plan, 12, x.Done, 6)
	force, _ := closing.Force(x.Three, 5, 2)
	is, _ := closing.Permitted(x.Three, 5)
	order, _ := closing.Order(x.Three)
	ordered := closing.CheckOrder(x.Three, x.Order)
	stuck, _ := closing.Stuck(x.Weak)
	proof := closing.CheckStuck(x.Weak, x.Family)
	passages, _ := closing.Passages(x.Ships, 1, 10)
	sum, _ := closing.CheckPassages(x.Ships, 1, 10, x.Passages)
	uncleared, _ := closing.Uncleared(x.Ships, 1, 10)
	late, _ := closing.Late(x.Ships, 4)
	text, _ := closing.Print(x.Plan)
	checked := list(int(closing.CheckPlan(x.Plan)), int(closing.CheckGates(x.Weak)), int(closing.CheckShips(x.Ships)))
	return []any{short, long, duration, critical, latest, slack, fatal, verdict, force, is, order, ordered, stuck, proof, passages, sum, uncleared, late, text, checked}
}

// fill overwrites everything in a list, and in what it has room for.
func fill[T any](l []T, x T) {
	l = l[:cap(l)]
	for i := range l {
		l[i] = x
	}
}

// spoil overwrites an argument or a result.
func spoil(what any) {
	switch l := what.(type) {
	case []int:
		fill(l, 77)
	case []closing.Phase:
		for _, p := range l {
			spoil(p.Before)
		}
		fill(l, phase("spoilt", 77, 77, 77))
	case closing.Gates:
		for _, influences := range l.Influence {
			spoil(influences)
		}
		fill(l.Influence, list(77))
		spoil(l.Strength)
		spoil(l.Load)
	case []closing.Ship:
		fill(l, ship("spoilt", 77, 77, 77, 77))
	case []closing.Passage:
		fill(l, closing.Passage{Ship: 77, Start: 77})
	}
}

// spoil overwrites all arguments.
func (x used) spoil() {
	for _, argument := range []any{x.Plan, x.Done, x.Weak, x.Three, x.Order, x.Family, x.Ships, x.Passages} {
		spoil(argument)
	}
}

func TestResultsShareNoMemoryWithArguments(t *testing.T) {
	x := fresh()
	results := x.results()
	want(t, "the arguments", x, fresh())
	want(t, "the results", results, []any{
		list(0, 0, 2, 5), list(0, 0, 6, 9), api.Interval{Low: 6, High: 11}, list(1, 2, 3), list(3, 1, 7, 10), list(3, 1, 1, 1), list(8, 8, 11, 12), "kept", 9, true, list(2, 0, 1), api.OK, list(0, 1, 2), api.OK, pass(0, 0, 1, 5), 5, list(2), list(2), ppText, list(0, 0, 0),
	})
	before := fmt.Sprintf("%+v", results)
	x.spoil()
	want(t, "the results behind spoilt arguments", fmt.Sprintf("%+v", results), before)
	x = fresh()
	for _, result := range x.results() {
		spoil(result)
	}
	want(t, "the arguments behind spoilt results", x, fresh())
	want(t, "the results of a second call", fmt.Sprintf("%+v", x.results()), before)
}

// What is spoilt in one phase of a plan does not show in the others.
func TestPhasesShareNoMemory(t *testing.T) {
	l, _, e := closing.Parse(ppText + "phase a 1 2 0 1 2 3\nphase b 1 2 0 1 2 3 4\n")
	want(t, "error of Parse", e, api.OK)
	for i := range l {
		before := fmt.Sprint(l[i+1:])
		spoil(l[i].Before)
		want(t, "the phases behind a spoilt one", fmt.Sprint(l[i+1:]), before)
	}
}
