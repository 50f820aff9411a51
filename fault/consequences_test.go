package fault_test

import (
	"fmt"
	"math/big"
	"math/rand"
	"slices"
	"testing"

	"tideway/api"
	"tideway/fault"
	"tideway/gate"
)

// P7.5, and P7 and P8 of DOC.md

func isCutOf(t *testing.T, x fault.Tree, l []int) bool {
	t.Helper()
	is, e := fault.Fails(x, l)
	want(t, "Fails", e, api.OK)
	return is
}

func chance(t *testing.T, x fault.Tree) *big.Rat {
	t.Helper()
	p, e := fault.Chance(x)
	want(t, "Chance", e, api.OK)
	return rational(p)
}

func TestMoreEventsNeverMakeTheTopEventWhole(t *testing.T) {
	r := rand.New(rand.NewSource(211))
	failing := 0
	for range rounds {
		x := randomTree(r, 12)
		for range 20 {
			l := randomSet(r, x)
			before, _ := fault.States(x, l)
			more := l
			for _, event := range randomSet(r, x) {
				if !slices.Contains(more, event) {
					more = append(slices.Clone(more), event)
				}
			}
			slices.Sort(more)
			behind, e := fault.States(x, more)
			want(t, "error of States", e, api.OK)
			for node, is := range before {
				if is && !behind[node] {
					t.Errorf("the node %d of %v fails by %v, and not by %v", node, x, l, more)
				}
			}
			if before[len(before)-1] && len(more) > len(l) {
				failing++
			}
		}
		all, none := isCutOf(t, x, others(x, nil)), isCutOf(t, x, nil)
		want(t, "all events, and none", []bool{all, none}, []bool{true, false})
	}
	if failing < rounds {
		t.Errorf("the top event fails before just %d times", failing)
	}
}

// P8 of DOC.md, too.
func TestCutSetsContainMinimalOnes(t *testing.T) {
	r := rand.New(rand.NewSource(212))
	for range rounds {
		x := randomTree(r, 12)
		cuts, _ := fault.Cuts(x)
		paths, _ := fault.Paths(x)
		for range 20 {
			l := randomSet(r, x)
			inside := func(s []int) bool { return isIn(s, l) }
			is := isCutOf(t, x, l)
			want(t, "contains a minimal cut set", slices.ContainsFunc(cuts, inside), is)
			l = others(x, l)
			want(t, "the others contain a minimal path set", slices.ContainsFunc(paths, inside), !is)
		}
		for _, cut := range cuts {
			for _, path := range paths {
				shared := slices.ContainsFunc(cut, func(event int) bool { return slices.Contains(path, event) })
				want(t, "shares an event", shared, true)
			}
		}
	}
}

// weighted returns the sum of two numbers with the weights of a chance, and of what it lacks.
func weighted(c int, with, without *big.Rat) *big.Rat {
	a, b := new(big.Rat).Mul(share(c), with), new(big.Rat).Mul(share(16-c), without)
	return a.Add(a, b)
}

// P8 of DOC.md, too: probabilities are exact, so that they are linear in each chance.
func TestProbabilitiesAreLinear(t *testing.T) {
	r := rand.New(rand.NewSource(213))
	rising := 0
	for range rounds {
		x := randomTree(r, 8)
		event := r.Intn(size(x))
		with, _ := fault.Given(x, list(event), nil)
		without, _ := fault.Given(x, nil, list(event))
		before := new(big.Rat)
		for c := range 17 {
			tested, e := fault.Tested(x, event, c)
			want(t, "error of Tested", e, api.OK)
			p := chance(t, tested)
			want(t, "Chance", p, weighted(c, rational(with), rational(without)))
			want(t, "falls", p.Cmp(before) < 0, false)
			if c > 0 && p.Cmp(before) > 0 {
				rising++
			}
			before = p
		}
		low, _ := fault.Tested(x, event, 0)
		want(t, "Chance without it", chance(t, low), rational(without))
		raise, _ := fault.Importance(x, event)
		want(t, "Importance", rational(raise), new(big.Rat).Sub(rational(with), rational(without)))
		wantShares(t, x)
	}
	if rising < rounds {
		t.Errorf("only %d chances raise a probability", rising)
	}
}

// wantShares checks that events share the failures of the top event with those that do not occur.
func wantShares(t *testing.T, x fault.Tree) {
	t.Helper()
	top := chance(t, x)
	for event := range size(x) {
		p, e := fault.Share(x, event)
		if top.Sign() == 0 {
			wantError(t, "Share", p, e, api.ErrZero)
			continue
		}
		not, _ := fault.Given(x, nil, list(event))
		both := new(big.Rat).Mul(share(16-chanceOf(x, event)), rational(not))
		want(t, "Share, and that without it", both.Add(both.Quo(both, top), rational(p)), big.NewRat(1, 1))
	}
}

func TestProbabilitiesAreAtMostTheBound(t *testing.T) {
	r := rand.New(rand.NewSource(214))
	equal, below := 0, 0
	for range rounds {
		x := randomTree(r, 10)
		bound, e := fault.Bound(x)
		want(t, "error of Bound", e, api.OK)
		switch chance(t, x).Cmp(rational(bound)) {
		case 1:
			t.Errorf("the probability of %v is above its bound", x)
		case 0:
			equal++
		default:
			below++
		}
	}
	if equal < 20 || below < 20 {
		t.Errorf("%d probabilities are at the bound, %d below it", equal, below)
	}
}

// renamed returns a tree with other names.
func renamed(x fault.Tree) fault.Tree {
	x.Basics, x.Causes = slices.Clone(x.Basics), slices.Clone(x.Causes)
	for i := range x.Basics {
		x.Basics[i].Name = fmt.Sprint("d", i)
	}
	for i := range x.Causes {
		x.Causes[i].Name = fmt.Sprint("e", i)
	}
	return x
}

// parts returns the events of both trees of a merged one.
func parts(a, b fault.Tree, l []int) ([]int, []int) {
	first, second := len(a.Basics), len(a.Basics)+len(b.Basics)
	third := second + len(a.Causes)
	var of, other []int
	for _, event := range l {
		switch {
		case event < first:
			of = append(of, event)
		case event < second:
			other = append(other, event-first)
		case event < third:
			of = append(of, event-len(b.Basics))
		default:
			other = append(other, event-first-len(a.Causes))
		}
	}
	return of, other
}

func TestMergedTreesAreBoth(t *testing.T) {
	r := rand.New(rand.NewSource(215))
	merged := 0
	for range 2 * rounds {
		a, b := randomTree(r, 6), renamed(randomTree(r, 6))
		both, e := fault.Merge(a, b, "and")
		one, same := fault.Merge(a, b, "or")
		want(t, "error of Merge", same, e)
		if len(a.Gates)+len(b.Gates) > 31 {
			want(t, "error of Merge", e, api.ErrMany)
			continue
		}
		merged++
		p, q, whole := chance(t, a), chance(t, b), big.NewRat(1, 1)
		product := new(big.Rat).Mul(p, q)
		want(t, "Chance by and", chance(t, both), product)
		neither := new(big.Rat).Mul(new(big.Rat).Sub(whole, p), new(big.Rat).Sub(whole, q))
		want(t, "Chance by or", chance(t, one), neither.Sub(whole, neither))
		for range 10 {
			l := randomSet(r, both)
			of, other := parts(a, b, l)
			first, second := isCutOf(t, a, of), isCutOf(t, b, other)
			want(t, "Fails", []bool{isCutOf(t, both, l), isCutOf(t, one, l)}, []bool{first && second, first || second})
		}
	}
	if merged < rounds {
		t.Errorf("only %d trees are merged", merged)
	}
}

func TestDuals(t *testing.T) {
	r := rand.New(rand.NewSource(216))
	for range rounds {
		x := randomTree(r, 10)
		for len(x.Causes) > 0 {
			_, e := fault.Dual(x)
			want(t, "error of Dual", e, api.ErrRule)
			x, e = fault.Without(x, r.Intn(len(x.Causes)))
			want(t, "error of Without", e, api.OK)
		}
		dual, e := fault.Dual(x)
		want(t, "Dual", []any{fault.CheckTree(dual), e}, []any{api.OK, api.OK})
		again, e := fault.Dual(dual)
		want(t, "the dual of the dual", []any{again, e}, []any{x, api.OK})
		for range 10 {
			l := randomSet(r, x)
			want(t, "Fails", isCutOf(t, dual, l), !isCutOf(t, x, others(x, l)))
		}
		cuts, _ := fault.Cuts(dual)
		paths, _ := fault.Paths(x)
		want(t, "Cuts of the dual", cuts, paths)
		p := chance(t, dual)
		want(t, "Chance of the dual", p.Add(p, chance(t, x)), big.NewRat(1, 1))
	}
}

func TestTreesAreParsedAsTheyWerePrinted(t *testing.T) {
	r := rand.New(rand.NewSource(217))
	for range 2 * rounds {
		x := randomTree(r, 12)
		s, e := fault.Print(x)
		want(t, "error of Print", e, api.OK)
		again, i, e := fault.Parse(s)
		want(t, "Parse", []any{again, i, e}, []any{x, 0, api.OK})
	}
}

func TestTextsArePrintedAsTheyWereParsed(t *testing.T) {
	r := rand.New(rand.NewSource(218))
	read := 0
	for range 20 * rounds {
		text := []byte(ttText)
		text[r.Intn(len(text))] = "0123456789 \n-abcdegopqrst"[r.Intn(25)]
		x, i, e := fault.Parse(string(text))
		if e != api.OK {
			continue
		}
		read++
		s, e := fault.Print(x)
		want(t, "Print", []any{s, i, e}, []any{string(text), 0, api.OK})
	}
	if read < rounds {
		t.Errorf("only %d texts are parsed", read)
	}
}

// P7 of DOC.md speaks of gates. It is tested as the failures of a closing by both lines: a command is lost if both lines are, and what is against the lock stands still.
func TestClosingsByTwoLines(t *testing.T) {
	x := fault.Tree{
		Basics: []fault.Basic{basic("first", 2), basic("second", 2), basic("lock", 1)},
		Causes: []fault.Cause{cause("cable", 1, 0, 1)},
		Gates:  []fault.Gate{and(0, 1), or(2, 3)},
	}
	c := gate.Chart{States: []gate.State{{Name: "open", Parent: -1, Initial: -1}, {Name: "closed", Parent: -1, Initial: -1}}, Transitions: []gate.Transition{{From: 0, Event: "close", To: 1, Mask: 1}}}
	for _, l := range allSets(x) {
		failing, e := fault.States(x, l)
		want(t, "error of States", e, api.OK)
		var commands []gate.Command
		for line, lost := range failing[:2] {
			for range 2 {
				if !lost {
					commands = append(commands, gate.Command{Number: 1, Line: line, Event: "close"})
				}
			}
		}
		executed, _, e := gate.Execute(commands)
		want(t, "error of Execute", e, api.OK)
		want(t, "executed", len(executed) == 0, failing[3])
		leaf, _ := gate.Start(c)
		for _, event := range executed {
			in := gate.Input{Event: event}
			if failing[2] {
				in.Conditions = 1
			}
			leaf, e = gate.Step(c, leaf, in)
			want(t, "error of Step", e, api.OK)
		}
		want(t, fmt.Sprint("still open by ", l), leaf == 0, failing[4])
	}
}
