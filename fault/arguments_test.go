package fault_test

import (
	"fmt"
	"math"
	"math/rand"
	"slices"
	"testing"

	"tideway/api"
	"tideway/fault"
)

// P1 of DOC.md, and its rules about memory.

// strangeTrees returns trees with everything that they may not be, and some that have no error.
func strangeTrees() []fault.Tree {
	out := []fault.Tree{tt(), plain(), voting(), wide(1, or()), wide(8, vote(3))}
	for _, bad := range badTrees() {
		out = append(out, bad.x)
	}
	for _, n := range []int{math.MinInt, -2, -1, 0, 1, 2, math.MaxInt} {
		for _, m := range []int{math.MinInt, -1, 0, 1, 64, math.MaxInt} {
			out = append(out, fault.Tree{
				Basics: []fault.Basic{basic("a", n), basic("b", 3)},
				Causes: []fault.Cause{cause("c", 1, n, m)},
				Gates:  []fault.Gate{and(n, m), or(m), vote(n, 0, m), {Kind: "or", Need: n, Inputs: list(0)}},
			})
		}
	}
	return append(out, wide(100, or()), fault.Tree{Basics: make([]fault.Basic, 3000), Causes: make([]fault.Cause, 3000), Gates: make([]fault.Gate, 3000)})
}

func TestNoFunctionPanics(t *testing.T) {
	calls := 0
	check := func(what string, call func()) {
		defer func() {
			if x := recover(); x != nil {
				t.Errorf("%s: panic %v", what, x)
			}
		}()
		calls++
		call()
	}
	for _, x := range strangeTrees() {
		for _, n := range list(math.MinInt, -1, 0, 2, 4, 16, 64, math.MaxInt) {
			for _, l := range lists(nil, list(n), list(0, n), list(n, 1), list(0, 1, 2, n), slices.Repeat(list(n), 70)) {
				check("all functions", func() { treeCalls(x, n, l, lists(l, nil, list(n)), "or") })
				check("CheckTree", func() { fault.CheckTree(x) })
				check("Merge", func() { fault.Merge(tt(), x, "and") })
				check("Given", func() { fault.Given(x, l, nil) })
				check("CheckCuts", func() { fault.CheckCuts(x, nil, lists(l)) })
				check("Tested", func() { fault.Tested(x, 0, n) })
			}
		}
	}
	checkTexts(check)
	if calls < 10000 {
		t.Errorf("only %d calls", calls)
	}
}

// checkTexts parses texts of random bytes.
func checkTexts(check func(what string, call func())) {
	r := rand.New(rand.NewSource(221))
	for range 4000 {
		text := []byte(ttText)
		text[r.Intn(len(text))] = byte(r.Intn(256))
		from := r.Intn(len(text))
		check("Parse", func() { fault.Parse(string(text)) })
		check("Parse", func() { fault.Parse(string(text[from:])) })
	}
}

// used is arguments of all functions.
type used struct {
	X, Plain    fault.Tree
	Set, Others []int
	Sets, Paths [][]int
	Most        []int
}

func fresh() used {
	return used{X: tt(), Plain: renamed(plain()), Set: list(0, 1), Others: list(2), Sets: lists(list(2), list(3), list(0, 1)), Paths: lists(list(0, 2, 3), list(1, 2, 3)), Most: list(16, 4, 8, 1)}
}

// results returns what all functions say of arguments.
func (x used) results() []any {
	n, _ := fault.Size(x.X)
	is, _ := fault.Fails(x.X, x.Set)
	failing, _ := fault.States(x.X, x.Set)
	cuts, _ := fault.Cuts(x.X)
	paths, _ := fault.Paths(x.X)
	proof := fault.CheckCuts(x.X, x.Sets, x.Paths)
	single, _ := fault.Single(x.X)
	dual, _ := fault.Dual(x.Plain)
	p, _ := fault.Chance(x.X)
	given, _ := fault.Given(x.X, x.Set, x.Others)
	raise, _ := fault.Importance(x.X, 2)
	sets, _ := fault.Critical(x.X, 2)
	part, _ := fault.Share(x.X, 2)
	bound, _ := fault.Bound(x.X)
	both, _ := fault.Interval(x.X, x.Most)
	tested, _ := fault.Tested(x.X, 3, 16)
	without, _ := fault.Without(x.X, 0)
	event, least, _ := fault.Next(x.X)
	merged, _ := fault.Merge(x.X, x.Plain, "or")
	text, _ := fault.Print(x.X)
	return []any{fault.CheckTree(x.X), n, is, failing, cuts, paths, proof, single, dual, p, given, raise, sets, part, bound, both, tested, without, event, least, merged, text}
}

// fill overwrites everything in a list, and in what it has room for.
func fill[T any](l []T, x T) {
	l = l[:cap(l)]
	for i := range l {
		l[i] = x
	}
}

// spoil overwrites an argument or a result.
func spoil(what any) {
	switch l := what.(type) {
	case []int:
		fill(l, 77)
	case []bool:
		fill(l, true)
	case [][]int:
		for _, s := range l {
			spoil(s)
		}
		fill(l, list(77))
	case fault.Tree:
		for _, c := range l.Causes {
			spoil(c.Members)
		}
		for _, g := range l.Gates {
			spoil(g.Inputs)
		}
		fill(l.Basics, basic("spoilt", 77))
		fill(l.Causes, cause("spoilt", 77))
		fill(l.Gates, vote(77, 77))
	}
}

// spoil overwrites all arguments.
func (x used) spoil() {
	for _, argument := range []any{x.X, x.Plain, x.Set, x.Others, x.Sets, x.Paths, x.Most} {
		spoil(argument)
	}
}

func TestResultsShareNoMemoryWithArguments(t *testing.T) {
	x := fresh()
	results := x.results()
	want(t, "the arguments", x, fresh())
	before := fmt.Sprintf("%+v", results)
	x.spoil()
	want(t, "the results", fmt.Sprintf("%+v", results), before)
	x = fresh()
	for _, result := range x.results() {
		spoil(result)
	}
	want(t, "the arguments behind spoilt results", x, fresh())
	want(t, "the results of a second call", fmt.Sprintf("%+v", x.results()), before)
}

// What is spoilt in one part of a result does not show in the others.
func TestPartsOfResultsShareNoMemory(t *testing.T) {
	dual, _ := fault.Dual(wide(3, or()))
	tested, _ := fault.Tested(voting(), 0, 1)
	without, _ := fault.Without(voting(), 0)
	merged, _ := fault.Merge(tt(), voting(), "and")
	parsed, _, e := fault.Parse(ttBasics + ttCauses + "cause t 2 2\n" + ttGates)
	want(t, "error of Parse", e, api.OK)
	for _, x := range []fault.Tree{dual, tested, without, merged, parsed} {
		var l [][]int
		for _, c := range x.Causes {
			l = append(l, c.Members)
		}
		for _, g := range x.Gates {
			l = append(l, g.Inputs)
		}
		wantApart(t, l)
	}
	cuts, _ := fault.Cuts(voting())
	wantApart(t, cuts)
	paths, _ := fault.Paths(voting())
	wantApart(t, paths)
}

func wantApart(t *testing.T, l [][]int) {
	t.Helper()
	for i := range l {
		before := fmt.Sprint(l[i+1:])
		spoil(l[i])
		want(t, "the parts behind a spoilt one", fmt.Sprint(l[i+1:]), before)
	}
}
