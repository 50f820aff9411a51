package fault_test

import (
	"cmp"
	"fmt"
	"math"
	"math/big"
	"math/rand"
	"reflect"
	"slices"
	"strings"
	"testing"

	"tideway/api"
	"tideway/fault"
)

// rounds is the number of random trees of a test.
const rounds = 200

// want compares what results print as: so nil and empty lists are equal.
func want(t *testing.T, what string, got, wanted any) {
	t.Helper()
	if g, w := fmt.Sprintf("%+v", got), fmt.Sprintf("%+v", wanted); g != w {
		t.Errorf("%s: got %s, want %s", what, g, w)
	}
}

// wantError reports an error that is not the wanted one, and a result beside an error that is not zero.
func wantError(t *testing.T, what string, got any, e, wanted api.Errno) {
	t.Helper()
	want(t, "error of "+what, e, wanted)
	if e != api.OK {
		want(t, what+" beside an error", got, reflect.Zero(reflect.TypeOf(got)).Interface())
	}
}

func list(l ...int) []int {
	return l
}

func lists(l ...[]int) [][]int {
	return l
}

func ratio(num, den int) api.Ratio {
	return api.Ratio{Num: num, Den: den}
}

func basic(name string, chance int) fault.Basic {
	return fault.Basic{Name: name, Chance: chance}
}

func cause(name string, chance int, members ...int) fault.Cause {
	return fault.Cause{Name: name, Chance: chance, Members: members}
}

func and(inputs ...int) fault.Gate {
	return fault.Gate{Kind: "and", Inputs: inputs}
}

func or(inputs ...int) fault.Gate {
	return fault.Gate{Kind: "or", Inputs: inputs}
}

func vote(need int, inputs ...int) fault.Gate {
	return fault.Gate{Kind: "vote", Need: need, Inputs: inputs}
}

// tt is the tree T of the chapter's examples.
func tt() fault.Tree {
	return fault.Tree{
		Basics: []fault.Basic{basic("p", 8), basic("q", 4), basic("r", 8)},
		Causes: []fault.Cause{cause("s", 1, 0, 1)},
		Gates:  []fault.Gate{and(0, 1), or(2, 3)},
	}
}

// plain is T without its cause.
func plain() fault.Tree {
	return changed(func(x *fault.Tree) { x.Causes = nil })
}

// voting is a tree with two causes that have a member in common, a vote, a gate that nothing uses, and chances at both ends.
func voting() fault.Tree {
	return fault.Tree{
		Basics: []fault.Basic{basic("a", 16), basic("b", 3), basic("c", 5), basic("d", 0)},
		Causes: []fault.Cause{cause("x", 2, 1, 2), cause("y", 7, 2, 3)},
		Gates:  []fault.Gate{vote(2, 1, 2, 3), or(0, 4), and(0, 4)},
	}
}

// changed is T after a change.
func changed(f func(x *fault.Tree)) fault.Tree {
	x := tt()
	f(&x)
	return x
}

// wide is a tree with so many basic events, all with the chance 1, and one gate.
func wide(n int, g fault.Gate) fault.Tree {
	var x fault.Tree
	for i := range n {
		x.Basics = append(x.Basics, basic(fmt.Sprint("w", i), 1))
		g.Inputs = append(g.Inputs, i)
	}
	x.Gates = []fault.Gate{g}
	return x
}

// most is a tree with as many events, gates and inputs as there may be, and the longest names.
func most() fault.Tree {
	var x fault.Tree
	for i := range 8 {
		x.Basics = append(x.Basics, basic(strings.Repeat(string(rune('a'+i)), 24), 2*i))
	}
	for i := range 4 {
		x.Causes = append(x.Causes, cause(strings.Repeat(string(rune('Z'-i)), 24), 16, 0, 1, 2, 3, 4, 5, 6, 7))
	}
	for i := range 32 {
		g := vote(1 + i%12)
		for node := max(0, i-4); node < 8+i && len(g.Inputs) < 12; node++ {
			g.Inputs = append(g.Inputs, node)
		}
		g.Need = min(g.Need, len(g.Inputs))
		x.Gates = append(x.Gates, g)
	}
	return x
}

// outside returns numbers that are not from 0 to n.
func outside(n int) []int {
	return list(math.MinInt, -1, n+1, math.MaxInt)
}

var badNames = []string{"", "9", "a b", "_a", "é", "A-", "a\n", strings.Repeat("a", 25)}

// badTree is a tree with its first error.
type badTree struct {
	x fault.Tree
	e api.Errno
}

// defect is a change after which a tree has an error.
type defect struct {
	e api.Errno
	f func(x *fault.Tree)
}

// inOrder returns T with each defect, and with each two of them: the first one decides.
func inOrder(l ...defect) []badTree {
	var out []badTree
	for i, a := range l {
		out = append(out, badTree{changed(a.f), a.e})
		for _, b := range l[i+1:] {
			both := changed(b.f)
			a.f(&both)
			out = append(out, badTree{both, a.e})
		}
	}
	return out
}

func badTrees() []badTree {
	return slices.Concat(badSizes(), badEvents(), badMembers(), badGates(), badNeeds(), badPlaces())
}

// badSizes are trees with too few or too many events or gates.
func badSizes() []badTree {
	// of returns a tree of so many events and gates without names and kinds.
	of := func(e api.Errno, basics, causes, gates int) badTree {
		return badTree{fault.Tree{Basics: make([]fault.Basic, basics), Causes: make([]fault.Cause, causes), Gates: make([]fault.Gate, gates)}, e}
	}
	many := changed(func(x *fault.Tree) { x.Gates = slices.Repeat(x.Gates[:1], 33) })
	unnamed := changed(func(x *fault.Tree) { x.Basics[0].Name, x.Gates = "", many.Gates })
	return []badTree{
		of(api.ErrEmpty, 0, 0, 0), of(api.ErrEmpty, 0, 13, 33), of(api.ErrEmpty, 0, 1, 1), of(api.ErrEmpty, 1, 0, 0), of(api.ErrEmpty, 13, 0, 0),
		{changed(func(x *fault.Tree) { x.Basics = nil }), api.ErrEmpty}, {changed(func(x *fault.Tree) { x.Gates = nil }), api.ErrEmpty},
		of(api.ErrMany, 13, 0, 1), of(api.ErrMany, 1, 12, 1), of(api.ErrMany, 6, 7, 33), of(api.ErrMany, 13, 0, 32), of(api.ErrMany, 1, 0, 33), of(api.ErrMany, 12, 0, 33), {wide(13, or()), api.ErrMany}, {many, api.ErrMany}, {unnamed, api.ErrMany},
		of(api.ErrName, 12, 0, 32), of(api.ErrName, 6, 6, 1), of(api.ErrName, 1, 11, 32), {changed(func(x *fault.Tree) { x.Gates = make([]fault.Gate, 32) }), api.ErrKind},
	}
}

// badEvents are trees with wrong names and chances of events.
func badEvents() []badTree {
	var out []badTree
	for _, name := range badNames {
		for i := range 3 {
			out = append(out, badTree{changed(func(x *fault.Tree) { x.Basics[i] = basic(name, -1) }), api.ErrName})
		}
		out = append(out, badTree{changed(func(x *fault.Tree) { x.Causes[0] = cause(name, -1) }), api.ErrName})
	}
	for _, n := range outside(16) {
		for i := range 3 {
			out = append(out, badTree{changed(func(x *fault.Tree) { x.Basics[i].Chance = n }), api.ErrRange})
		}
		out = append(out,
			badTree{changed(func(x *fault.Tree) { x.Basics[2] = basic("q", n) }), api.ErrRange}, badTree{changed(func(x *fault.Tree) { x.Causes[0].Chance = n }), api.ErrRange}, badTree{changed(func(x *fault.Tree) { x.Causes[0] = cause("p", n) }), api.ErrRange},
		)
	}
	for i, name := range []string{"p", "q", "r", "s"} {
		for j := i + 1; j < 3; j++ {
			out = append(out, badTree{changed(func(x *fault.Tree) { x.Basics[j].Name = name }), api.ErrTwice})
		}
		more := cause(name, 0)
		out = append(out, badTree{changed(func(x *fault.Tree) { x.Causes = append(x.Causes, more) }), api.ErrTwice}, badTree{changed(func(x *fault.Tree) { x.Causes = append(x.Causes, cause("t", 0, 1), more) }), api.ErrTwice})
	}
	return out
}

// badMembers are trees with causes whose members are wrong.
func badMembers() []badTree {
	of := func(e api.Errno, members ...int) badTree {
		return badTree{changed(func(x *fault.Tree) { x.Causes[0].Members = members }), e}
	}
	out := []badTree{of(api.ErrEmpty), of(api.ErrOrder, 1, 0), of(api.ErrOrder, 1, 1), of(api.ErrOrder, 0, 2, 1), of(api.ErrOrder, 0, 1, 2, 0), of(api.ErrUnknown, 3)}
	for _, n := range outside(2) {
		out = append(out, of(api.ErrUnknown, n), of(api.ErrUnknown, 0, n), of(api.ErrUnknown, n, n), of(api.ErrUnknown, 1, 0, n), of(api.ErrUnknown, 2, 2, n))
	}
	return out
}

// badGates are trees with gates whose kinds and inputs are wrong.
func badGates() []badTree {
	of := func(e api.Errno, g fault.Gate) badTree {
		return badTree{changed(func(x *fault.Tree) { x.Gates[1] = g }), e}
	}
	var out []badTree
	for _, kind := range []string{"", "And", "OR", "votes", "vot", "not", "and ", "basic"} {
		out = append(out, of(api.ErrKind, fault.Gate{Kind: kind}), of(api.ErrKind, fault.Gate{Kind: kind, Inputs: list(0, 1)}), of(api.ErrKind, fault.Gate{Kind: kind, Need: 9, Inputs: make([]int, 13)}))
	}
	for _, kind := range []string{"and", "or", "vote"} {
		gate := func(e api.Errno, inputs ...int) {
			out = append(out, of(e, fault.Gate{Kind: kind, Need: -1, Inputs: inputs}))
		}
		gate(api.ErrEmpty)
		gate(api.ErrMany, 0, 1, 2, 3, 4, 5, 6, 7, 8, 9, 10, 11, 12)
		gate(api.ErrMany, make([]int, 13)...)
		gate(api.ErrUnknown, 0, 1, 2, 3, 4, 5, 6, 7, 8, 9, 10, 11)
		gate(api.ErrOrder, make([]int, 12)...)
		gate(api.ErrOrder, 1, 0)
		gate(api.ErrOrder, 0, 3, 3)
		gate(api.ErrOrder, 0, 3, 2)
		for _, n := range append(outside(3), 5) {
			gate(api.ErrUnknown, n)
			gate(api.ErrUnknown, 0, 1, n)
			gate(api.ErrUnknown, 1, 0, n)
			gate(api.ErrUnknown, n, n)
		}
	}
	// The first gate has the basic events before it, and nothing else.
	for _, n := range append(outside(2), 4) {
		out = append(out, badTree{changed(func(x *fault.Tree) { x.Gates[0].Inputs = list(0, n) }), api.ErrUnknown})
	}
	return out
}

// badNeeds are trees with gates whose needs are wrong.
func badNeeds() []badTree {
	of := func(g fault.Gate, need int) badTree {
		g.Need = need
		return badTree{changed(func(x *fault.Tree) { x.Gates[1] = g }), api.ErrRange}
	}
	var out []badTree
	for _, n := range list(math.MinInt, -1, 1, 2, math.MaxInt) {
		out = append(out, of(and(0, 3), n), of(or(0, 3), n), of(and(2), n), of(or(2), n))
	}
	for _, n := range list(math.MinInt, -1, 0, math.MaxInt) {
		out = append(out, of(vote(0, 0, 1, 3), n), of(vote(0, 3), n))
	}
	return append(out, of(vote(0, 0, 1, 3), 4), of(vote(0, 0, 1), 3), of(vote(0, 3), 2))
}

// badPlaces are trees with several errors, of which the first one decides: basic events, causes, gates, each by its number.
func badPlaces() []badTree {
	return inOrder(
		defect{api.ErrRange, func(x *fault.Tree) { x.Basics[0].Chance = 17 }},
		defect{api.ErrName, func(x *fault.Tree) { x.Basics[1].Name = "" }},
		defect{api.ErrTwice, func(x *fault.Tree) { x.Basics[2].Name = "p" }},
		defect{api.ErrOrder, func(x *fault.Tree) { x.Causes[0].Members = list(1, 0) }},
		defect{api.ErrName, func(x *fault.Tree) { x.Causes = append(x.Causes, cause("9", 0, 0)) }},
		defect{api.ErrRange, func(x *fault.Tree) { x.Gates[0].Need = 1 }},
		defect{api.ErrKind, func(x *fault.Tree) { x.Gates[1].Kind = "" }},
	)
}

// badSet is a set of events of T with its error.
type badSet struct {
	l []int
	e api.Errno
}

func badSets() []badSet {
	out := []badSet{{list(1, 0), api.ErrOrder}, {list(0, 0), api.ErrOrder}, {list(3, 3), api.ErrOrder}, {list(0, 2, 1), api.ErrOrder}, {list(0, 1, 2, 3, 3), api.ErrOrder}, {make([]int, 2000), api.ErrOrder}}
	for _, n := range outside(3) {
		out = append(out, badSet{list(n), api.ErrUnknown}, badSet{list(0, 1, n), api.ErrUnknown}, badSet{list(1, 0, n), api.ErrUnknown}, badSet{list(n, n), api.ErrUnknown}, badSet{list(3, 3, n), api.ErrUnknown})
	}
	return out
}

// randomTree returns a tree with so many events at most.
func randomTree(r *rand.Rand, most int) fault.Tree {
	n := 1 + r.Intn(most)
	var x fault.Tree
	basics := n - r.Intn((n+1)/2)
	for i := range basics {
		x.Basics = append(x.Basics, basic(fmt.Sprint("b", i), r.Intn(17)))
	}
	for i := basics; i < n; i++ {
		x.Causes = append(x.Causes, cause(fmt.Sprint("c", i), r.Intn(17), randomSome(r, 0, basics, 2)...))
	}
	gates := []int{1, 2, 3, 4, 1 + r.Intn(32)}[r.Intn(5)]
	for i := range gates {
		nodes := basics + i
		g := fault.Gate{Kind: []string{"and", "or", "vote"}[r.Intn(3)], Inputs: randomSome(r, r.Intn(nodes), nodes, 12)}
		if i == gates-1 {
			g.Inputs = randomSome(r, 0, nodes, 12)
		}
		if g.Kind == "vote" {
			g.Need = 1 + r.Intn(len(g.Inputs))
		}
		x.Gates = append(x.Gates, g)
	}
	return x
}

// randomSome returns at least one, and so many at most, of the numbers from one on below another one, ascending.
func randomSome(r *rand.Rand, from, below, most int) []int {
	n := min(below-from, most)
	out := r.Perm(below - from)[:max(1+r.Intn(n), r.Intn(n))]
	for i := range out {
		out[i] += from
	}
	slices.Sort(out)
	return out
}

// randomSet returns a set of the events of a tree.
func randomSet(r *rand.Rand, x fault.Tree) []int {
	return allSets(x)[r.Intn(1<<size(x))]
}

// The functions below compute by the definitions of the chapter, in other ways than the program.

func size(x fault.Tree) int {
	return len(x.Basics) + len(x.Causes)
}

// chanceOf returns the chance of an event.
func chanceOf(x fault.Tree, event int) int {
	if event < len(x.Basics) {
		return x.Basics[event].Chance
	}
	return x.Causes[event-len(x.Basics)].Chance
}

// states returns for each node whether it fails if some events occur.
func states(x fault.Tree, events []int) []bool {
	var out []bool
	for i := range x.Basics {
		is := slices.Contains(events, i)
		for j, c := range x.Causes {
			is = is || slices.Contains(events, len(x.Basics)+j) && slices.Contains(c.Members, i)
		}
		out = append(out, is)
	}
	for _, g := range x.Gates {
		n := 0
		for _, input := range g.Inputs {
			if out[input] {
				n++
			}
		}
		out = append(out, map[string]bool{"and": n == len(g.Inputs), "or": n > 0, "vote": n >= g.Need}[g.Kind])
	}
	return out
}

// fails reports whether the top event fails if some events occur.
func fails(x fault.Tree, events []int) bool {
	l := states(x, events)
	return l[len(l)-1]
}

// allSets returns all sets of the events of a tree.
func allSets(x fault.Tree) [][]int {
	out := lists(nil)
	for event := range size(x) {
		for _, l := range slices.Clone(out) {
			out = append(out, append(slices.Clone(l), event))
		}
	}
	return out
}

// others returns the events of a tree that are not in a set.
func others(x fault.Tree, l []int) []int {
	var out []int
	for event := range size(x) {
		if !slices.Contains(l, event) {
			out = append(out, event)
		}
	}
	return out
}

// isIn reports whether all numbers of a set are in another one.
func isIn(l, whole []int) bool {
	return !slices.ContainsFunc(l, func(n int) bool { return !slices.Contains(whole, n) })
}

func without(l []int, n int) []int {
	return slices.DeleteFunc(slices.Clone(l), func(m int) bool { return m == n })
}

// minimal returns the sets for which something holds that does not hold without any one of their events, in order.
// It never holds for fewer events if it does not for more.
func minimal(x fault.Tree, holds func(l []int) bool) [][]int {
	var out [][]int
	for _, l := range allSets(x) {
		fewer := func(event int) bool { return holds(without(l, event)) }
		if holds(l) && !slices.ContainsFunc(l, fewer) {
			out = append(out, l)
		}
	}
	slices.SortFunc(out, func(a, b []int) int { return cmp.Or(len(a)-len(b), slices.Compare(a, b)) })
	return out
}

func isCut(x fault.Tree) func(l []int) bool {
	return func(l []int) bool { return fails(x, l) }
}

func isPath(x fault.Tree) func(l []int) bool {
	return func(l []int) bool { return !fails(x, others(x, l)) }
}

// share returns a chance as a share of 1.
func share(chance int) *big.Rat {
	return big.NewRat(int64(chance), 16)
}

// probability splits by the events one by one: those before are decided, and the ones of them in a set occur.
func probability(x fault.Tree, chances []int, set []int, next int) *big.Rat {
	if next == len(chances) {
		if fails(x, set) {
			return big.NewRat(1, 1)
		}
		return new(big.Rat)
	}
	out := new(big.Rat)
	if c := chances[next]; c > 0 {
		out.Mul(share(c), probability(x, chances, append(slices.Clone(set), next), next+1))
	}
	if c := 16 - chances[next]; c > 0 {
		out.Add(out, new(big.Rat).Mul(share(c), probability(x, chances, set, next+1)))
	}
	return out
}

// chancesOf returns the chances of all events.
func chancesOf(x fault.Tree) []int {
	var out []int
	for event := range size(x) {
		out = append(out, chanceOf(x, event))
	}
	return out
}

// withChance returns chances after one has been changed.
func withChance(l []int, event, chance int) []int {
	out := slices.Clone(l)
	out[event] = chance
	return out
}

// exact returns the ratio of a number.
func exact(x *big.Rat) api.Ratio {
	return ratio(int(x.Num().Int64()), int(x.Denom().Int64()))
}

// rational returns the number of a ratio.
func rational(x api.Ratio) *big.Rat {
	return big.NewRat(int64(x.Num), int64(x.Den))
}
