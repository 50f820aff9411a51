package fault_test

import (
	"math"
	"math/rand"
	"slices"
	"testing"

	"tideway/api"
	"tideway/fault"
)

// P7.1

func TestLimits(t *testing.T) {
	want(t, "limits", list(fault.MaxChance, fault.MaxEvents, fault.MaxGates, fault.MaxInputs, fault.MaxSets), list(16, 12, 32, 12, 1024))
}

// goodTrees are trees without errors, with the numbers of their events.
func goodTrees() map[int][]fault.Tree {
	return map[int][]fault.Tree{
		1: {wide(1, and()), wide(1, or()), wide(1, vote(1)), {Basics: []fault.Basic{basic("A_9", 0)}, Gates: slices.Repeat([]fault.Gate{or(0)}, 32)}},
		3: {plain(), wide(3, vote(1)), wide(3, vote(3))},
		4: {
			tt(), changed(func(x *fault.Tree) { x.Basics[1].Name, x.Causes[0].Name = "P", "S" }), changed(func(x *fault.Tree) { x.Basics[0].Name, x.Causes[0].Name = "basic", "or" }), changed(func(x *fault.Tree) { x.Basics[0].Chance, x.Causes[0].Chance = 16, 0 }),
			changed(func(x *fault.Tree) { x.Causes[0].Members = list(0, 1, 2) }), changed(func(x *fault.Tree) { x.Causes[0].Members = list(2) }), changed(func(x *fault.Tree) { x.Gates[1].Inputs = list(0) }), changed(func(x *fault.Tree) { x.Gates = x.Gates[:1] }),
		},
		6:  {voting()},
		12: {wide(12, and()), wide(12, vote(12)), most()},
	}
}

func TestCheckTree(t *testing.T) {
	for n, l := range goodTrees() {
		for _, x := range l {
			want(t, "CheckTree", fault.CheckTree(x), api.OK)
			got, e := fault.Size(x)
			want(t, "Size", []any{got, e}, []any{n, api.OK})
		}
	}
	for i, bad := range badTrees() {
		want(t, "CheckTree", []any{i, fault.CheckTree(bad.x)}, []any{i, bad.e})
	}
}

// treeCalls calls all functions with a tree, and with the same other arguments.
func treeCalls(x fault.Tree, number int, l []int, sets [][]int, kind string) map[string][]any {
	out := map[string][]any{}
	keep := func(what string) func(any, api.Errno) {
		return func(result any, e api.Errno) { out[what] = []any{result, e} }
	}
	integer := func(n int, e api.Errno) (any, api.Errno) { return n, e }
	chance := func(p api.Ratio, e api.Errno) (any, api.Errno) { return p, e }
	sometimes := func(l [][]int, e api.Errno) (any, api.Errno) { return l, e }
	tree := func(x fault.Tree, e api.Errno) (any, api.Errno) { return x, e }
	keep("Size")(integer(fault.Size(x)))
	is, e := fault.Fails(x, l)
	keep("Fails")(is, e)
	failing, e := fault.States(x, l)
	keep("States")(failing, e)
	keep("Cuts")(sometimes(fault.Cuts(x)))
	keep("Paths")(sometimes(fault.Paths(x)))
	keep("CheckCuts")(0, fault.CheckCuts(x, sets, sets))
	single, e := fault.Single(x)
	keep("Single")(single, e)
	keep("Dual")(tree(fault.Dual(x)))
	keep("Chance")(chance(fault.Chance(x)))
	keep("Given")(chance(fault.Given(x, l, l)))
	keep("Importance")(chance(fault.Importance(x, number)))
	keep("Critical")(integer(fault.Critical(x, number)))
	keep("Share")(chance(fault.Share(x, number)))
	keep("Bound")(chance(fault.Bound(x)))
	both, e := fault.Interval(x, l)
	keep("Interval")(both, e)
	keep("Tested")(tree(fault.Tested(x, number, number)))
	keep("Without")(tree(fault.Without(x, number)))
	event, p, e := fault.Next(x)
	keep("Next")(event, e)
	keep("the probability of Next")(p, e)
	keep("Merge")(tree(fault.Merge(x, x, kind)))
	keep("Merge with a bad tree")(tree(fault.Merge(x, fault.Tree{}, kind)))
	text, e := fault.Print(x)
	keep("Print")(text, e)
	return out
}

// The error of the tree goes before those of all other arguments.
func TestBadTreesInAllFunctions(t *testing.T) {
	for _, bad := range badTrees() {
		results := treeCalls(bad.x, math.MinInt, list(1, -1), slices.Repeat(lists(list(1, -1)), 1025), "x")
		want(t, "calls", len(results), 22)
		for what, result := range results {
			wantError(t, what, result[0], result[1].(api.Errno), bad.e)
		}
	}
}

func TestFailsAndStates(t *testing.T) {
	for _, row := range []struct {
		x    fault.Tree
		l    []int
		want []bool
	}{
		{tt(), list(0, 1), []bool{true, true, false, true, true}}, {tt(), list(0), []bool{true, false, false, false, false}}, {tt(), list(3), []bool{true, true, false, true, true}}, // example 1
		{tt(), nil, make([]bool, 5)}, {tt(), list(1), []bool{false, true, false, false, false}}, {tt(), list(2), []bool{false, false, true, false, true}}, {tt(), list(0, 3), []bool{true, true, false, true, true}}, {tt(), list(0, 1, 2, 3), slices.Repeat([]bool{true}, 5)},
		{voting(), list(0), []bool{true, false, false, false, false, true, false}}, {voting(), list(1, 3), []bool{false, true, false, true, true, true, false}}, {voting(), list(4), []bool{false, true, true, false, true, true, false}}, {voting(), list(0, 5), []bool{true, false, true, true, true, true, true}}, {voting(), list(2), []bool{false, false, true, false, false, false, false}}, {voting(), list(1, 5), []bool{false, true, true, true, true, true, false}},
		{wide(1, vote(1)), list(0), []bool{true, true}}, {wide(1, vote(1)), nil, []bool{false, false}},
	} {
		got, e := fault.States(row.x, row.l)
		want(t, "States", []any{row.l, got, e}, []any{row.l, row.want, api.OK})
		is, e := fault.Fails(row.x, row.l)
		want(t, "Fails", []any{row.l, is, e}, []any{row.l, row.want[len(row.want)-1], api.OK})
	}
}

func TestThresholds(t *testing.T) {
	for failing := range 6 {
		l := list(0, 1, 2, 3, 4)[:failing]
		for least, g := range map[int]fault.Gate{5: and(), 1: or(), 2: vote(2), 4: vote(4)} {
			is, e := fault.Fails(wide(5, g), l)
			want(t, "Fails", []any{g, l, is, e}, []any{g, l, failing >= least, api.OK})
		}
	}
	for need := range 12 {
		for failing := range 13 {
			is, e := fault.Fails(wide(12, vote(need+1)), list(0, 1, 2, 3, 4, 5, 6, 7, 8, 9, 10, 11)[12-failing:])
			want(t, "Fails", []any{need, failing, is, e}, []any{need, failing, failing > need, api.OK})
		}
	}
}

func TestErrorsOfFailsAndStates(t *testing.T) {
	for _, bad := range badSets() {
		is, e := fault.Fails(tt(), bad.l)
		wantError(t, "Fails", is, e, bad.e)
		l, e := fault.States(tt(), bad.l)
		wantError(t, "States", l, e, bad.e)
	}
	// The number of events counts, not that of nodes: a tree without the cause has one less.
	_, e := fault.Fails(plain(), list(3))
	want(t, "Fails", e, api.ErrUnknown)
	_, e = fault.States(wide(12, or()), list(12))
	want(t, "States", e, api.ErrUnknown)
}

func TestDual(t *testing.T) {
	votes := wide(5, vote(2))
	votes.Gates = append(votes.Gates, vote(3, 0, 1, 5), vote(1, 6), or(2, 7), and(3, 4, 8))
	dual := wide(5, vote(4))
	for i := range dual.Basics {
		dual.Basics[i].Chance = 15
	}
	dual.Gates = append(dual.Gates, vote(1, 0, 1, 5), vote(1, 6), and(2, 7), or(3, 4, 8))
	for _, row := range []struct{ x, want fault.Tree }{
		{plain(), fault.Tree{Basics: []fault.Basic{basic("p", 8), basic("q", 12), basic("r", 8)}, Gates: []fault.Gate{or(0, 1), and(2, 3)}}}, // example 5
		{votes, dual}, {dual, votes}, {fault.Tree{Basics: []fault.Basic{basic("a", 0), basic("b", 16)}, Gates: []fault.Gate{and(1)}}, fault.Tree{Basics: []fault.Basic{basic("a", 16), basic("b", 0)}, Gates: []fault.Gate{or(1)}}},
	} {
		got, e := fault.Dual(row.x)
		want(t, "Dual", []any{got, e}, []any{row.want, api.OK})
	}
	x, _ := fault.Dual(plain())
	p, e := fault.Chance(x)
	want(t, "Chance of the dual", []any{p, e}, []any{ratio(7, 16), api.OK}) // example 5
	for _, x := range []fault.Tree{tt(), voting(), most()} {
		got, e := fault.Dual(x)
		wantError(t, "Dual", got, e, api.ErrRule)
	}
}

func TestTested(t *testing.T) {
	for event := range 4 {
		for _, chance := range list(0, 1, 15, 16) {
			wanted := tt()
			if event < 3 {
				wanted.Basics[event].Chance = chance
			} else {
				wanted.Causes[0].Chance = chance
			}
			x, e := fault.Tested(tt(), event, chance)
			want(t, "Tested", []any{x, e}, []any{wanted, api.OK})
		}
		for _, chance := range outside(16) {
			x, e := fault.Tested(tt(), event, chance)
			wantError(t, "Tested", x, e, api.ErrRange)
		}
	}
	wanted := voting()
	wanted.Causes[1].Chance = 9
	x, e := fault.Tested(voting(), 5, 9)
	want(t, "Tested", []any{x, e}, []any{wanted, api.OK})
	// The event goes before its chance.
	for _, event := range outside(3) {
		x, e := fault.Tested(tt(), event, -1)
		wantError(t, "Tested", x, e, api.ErrUnknown)
	}
}

func TestWithout(t *testing.T) {
	three := voting()
	three.Causes = append(three.Causes, cause("z", 1, 0))
	for _, row := range []struct {
		x     fault.Tree
		cause int
		left  []fault.Cause
	}{
		{tt(), 0, nil}, {voting(), 0, []fault.Cause{cause("y", 7, 2, 3)}}, {voting(), 1, []fault.Cause{cause("x", 2, 1, 2)}},
		{three, 0, []fault.Cause{cause("y", 7, 2, 3), cause("z", 1, 0)}}, {three, 1, []fault.Cause{cause("x", 2, 1, 2), cause("z", 1, 0)}}, {three, 2, voting().Causes},
	} {
		x, e := fault.Without(row.x, row.cause)
		row.x.Causes = row.left
		want(t, "Without", []any{x, e}, []any{row.x, api.OK})
	}
	x, _ := fault.Without(tt(), 0)
	p, e := fault.Chance(x)
	want(t, "Chance without the cause", []any{p, e}, []any{ratio(9, 16), api.OK}) // example 5
	for _, n := range outside(0) {
		x, e := fault.Without(tt(), n)
		wantError(t, "Without", x, e, api.ErrUnknown)
	}
	for _, n := range append(outside(1), 4) {
		x, e := fault.Without(voting(), n)
		wantError(t, "Without", x, e, api.ErrUnknown)
	}
	x, e = fault.Without(plain(), 0)
	wantError(t, "Without", x, e, api.ErrUnknown)
}

func TestMerge(t *testing.T) {
	small := fault.Tree{Basics: []fault.Basic{basic("k", 3)}, Causes: []fault.Cause{cause("l", 2, 0)}, Gates: []fault.Gate{vote(1, 0), and(0, 1), or(2)}}
	for _, row := range []struct {
		a, b fault.Tree
		want fault.Tree
	}{
		{tt(), voting(), fault.Tree{
			Basics: slices.Concat(tt().Basics, voting().Basics),
			Causes: []fault.Cause{cause("s", 1, 0, 1), cause("x", 2, 4, 5), cause("y", 7, 5, 6)},
			Gates:  []fault.Gate{and(0, 1), or(2, 7), vote(2, 4, 5, 6), or(3, 9), and(3, 9)},
		}},
		{voting(), tt(), fault.Tree{
			Basics: slices.Concat(voting().Basics, tt().Basics),
			Causes: []fault.Cause{cause("x", 2, 1, 2), cause("y", 7, 2, 3), cause("s", 1, 4, 5)},
			Gates:  []fault.Gate{vote(2, 1, 2, 3), or(0, 7), and(0, 7), and(4, 5), or(6, 10)},
		}},
		{small, plain(), fault.Tree{
			Basics: slices.Concat(small.Basics, plain().Basics),
			Causes: small.Causes,
			Gates:  []fault.Gate{vote(1, 0), and(0, 4), or(5), and(1, 2), or(3, 7)},
		}},
	} {
		for _, kind := range []string{"and", "or"} {
			wanted := row.want
			tops := list(len(row.want.Basics)+len(row.a.Gates)-1, len(row.want.Basics)+len(row.want.Gates)-1)
			wanted.Gates = append(slices.Clone(wanted.Gates), fault.Gate{Kind: kind, Inputs: tops})
			x, e := fault.Merge(row.a, row.b, kind)
			want(t, "Merge", []any{x, e}, []any{wanted, api.OK})
			want(t, "CheckTree", fault.CheckTree(x), api.OK)
		}
	}
}

// gated is T with other names, and with so many gates.
func gated(gates int) fault.Tree {
	x := fault.Tree{Basics: []fault.Basic{basic("u", 1), basic("v", 2)}}
	x.Gates = slices.Repeat([]fault.Gate{or(0, 1)}, gates)
	return x
}

func TestErrorsOfMerge(t *testing.T) {
	for _, row := range []struct {
		a, b fault.Tree
		kind string
		e    api.Errno
	}{
		{tt(), wide(8, or()), "and", api.OK}, {tt(), wide(9, or()), "and", api.ErrMany}, {wide(9, or()), tt(), "or", api.ErrMany}, {plain(), wide(9, or()), "or", api.OK},
		{tt(), gated(29), "or", api.OK}, {tt(), gated(30), "or", api.ErrMany}, {tt(), gated(32), "or", api.ErrMany}, {gated(31), wide(1, or()), "and", api.ErrMany}, {gated(30), wide(1, or()), "and", api.OK}, {gated(32), wide(12, or()), "and", api.ErrMany},
		{tt(), tt(), "", api.ErrKind}, {tt(), voting(), "vote", api.ErrKind}, {tt(), voting(), "And", api.ErrKind}, {tt(), voting(), "or ", api.ErrKind}, {tt(), most(), "vote", api.ErrKind},
		{tt(), tt(), "and", api.ErrTwice}, {tt(), fault.Tree{Basics: []fault.Basic{basic("s", 0)}, Gates: []fault.Gate{or(0)}}, "or", api.ErrTwice}, {fault.Tree{Basics: []fault.Basic{basic("s", 0)}, Gates: []fault.Gate{or(0)}}, tt(), "or", api.ErrTwice}, {most(), most(), "or", api.ErrTwice}, {changed(func(x *fault.Tree) { x.Causes[0].Name = "y" }), voting(), "or", api.ErrTwice}, {changed(func(x *fault.Tree) { x.Basics[2].Name = "x" }), voting(), "or", api.ErrTwice}, {changed(func(x *fault.Tree) { x.Basics[2].Name = "X" }), voting(), "or", api.OK},
		{tt(), wide(13, or()), "x", api.ErrMany}, {tt(), fault.Tree{}, "x", api.ErrEmpty}, {changed(func(x *fault.Tree) { x.Gates[0].Kind = "x" }), fault.Tree{}, "x", api.ErrKind}, {changed(func(x *fault.Tree) { x.Gates[0].Need = 1 }), fault.Tree{}, "x", api.ErrRange},
	} {
		x, e := fault.Merge(row.a, row.b, row.kind)
		wantError(t, "Merge", x, e, row.e)
	}
	for _, bad := range badTrees() {
		x, e := fault.Merge(tt(), bad.x, "x")
		wantError(t, "Merge", x, e, bad.e)
	}
}

func TestTreesByDefinition(t *testing.T) {
	r := rand.New(rand.NewSource(201))
	failing := 0
	for range rounds {
		x := randomTree(r, 12)
		want(t, "CheckTree", fault.CheckTree(x), api.OK)
		n, e := fault.Size(x)
		want(t, "Size", []any{n, e}, []any{size(x), api.OK})
		for range 20 {
			l := randomSet(r, x)
			got, e := fault.States(x, l)
			want(t, "States", []any{got, e}, []any{states(x, l), api.OK})
			is, e := fault.Fails(x, l)
			want(t, "Fails", []any{is, e}, []any{fails(x, l), api.OK})
			if is {
				failing++
			}
		}
	}
	if failing < 3*rounds || failing > 17*rounds {
		t.Errorf("the top event fails %d times", failing)
	}
}
