package fault

import (
	"iter"

	"tideway/api"
	"tideway/checks"
	"tideway/lists"
	"tideway/sets"
)

// events is the events of a tree without errors: for each one the basic events that fail if it occurs, and its chance.
type events struct {
	strikes []sets.Set
	chances chances
}

// nodes is the nodes of a tree without errors: basic events, which its events make fail, and gates.
type nodes struct {
	events
	basics int
	gates  []threshold
}

// threshold is the inputs of a gate, and how many of them fail at least if it fails.
type threshold struct {
	inputs sets.Set
	least  int
}

func (t Tree) events() events {
	var out events
	for i, b := range t.Basics {
		out.add(sets.Only(i), b.Chance)
	}
	for _, c := range t.Causes {
		out.add(sets.Of(c.Members), c.Chance)
	}
	return out
}

// add adds an event that makes basic events fail.
func (l *events) add(basics sets.Set, chance int) {
	l.chances[len(l.strikes)] = chance
	l.strikes = append(l.strikes, basics)
}

func (t Tree) nodes() nodes {
	table := kinds()
	gates := lists.Transform(t.Gates, func(g Gate) threshold {
		return threshold{inputs: sets.Of(g.Inputs), least: table[g.Kind].least(g)}
	})
	return nodes{events: t.events(), basics: len(t.Basics), gates: gates}
}

// all returns the set of all events.
func (l events) all() sets.Set {
	return sets.Below(len(l.strikes))
}

// sets visits the sets of events.
func (l events) sets() iter.Seq[sets.Set] {
	return sets.All(len(l.strikes))
}

// those visits the sets of events that are as asked for.
func (l events) those(are func(sets.Set) bool) iter.Seq[sets.Set] {
	return func(yield func(sets.Set) bool) {
		for s := range l.sets() {
			if are(s) && !yield(s) {
				return
			}
		}
	}
}

// count returns the number of nodes.
func (n nodes) count() int {
	return n.basics + len(n.gates)
}

// failing returns the nodes that fail if the events of a set occur, and no others.
func (n nodes) failing(occurring sets.Set) sets.Set {
	var out sets.Set
	for event, basics := range n.strikes {
		if occurring.Has(event) {
			out |= basics
		}
	}
	for i, g := range n.gates {
		if (out & g.inputs).Size() >= g.least {
			out = out.With(n.basics + i)
		}
	}
	return out
}

// isCut reports whether a set of events is a cut set.
func (n nodes) isCut(s sets.Set) bool {
	return n.failing(s).Has(n.count() - 1)
}

// isPath reports whether a set of events is a path set.
func (n nodes) isPath(s sets.Set) bool {
	return !n.isCut(n.all() &^ s)
}

// Fails reports whether the top event occurs with some events.
func Fails(t Tree, events []int) (bool, api.Errno) {
	if e := checks.First(CheckTree(t), t.checkSet(events)); e != api.OK {
		return false, e
	}
	return t.nodes().isCut(sets.Of(events)), api.OK
}

// States returns which nodes of a tree fail with some events.
func States(t Tree, events []int) ([]bool, api.Errno) {
	if e := checks.First(CheckTree(t), t.checkSet(events)); e != api.OK {
		return nil, e
	}
	n := t.nodes()
	failing := n.failing(sets.Of(events))
	out := make([]bool, n.count())
	for node := range out {
		out[node] = failing.Has(node)
	}
	return out, api.OK
}
