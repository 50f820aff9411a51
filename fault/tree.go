package fault

import (
	"slices"

	"tideway/api"
	"tideway/checks"
	"tideway/lists"
)

// size returns the number of events.
func (t Tree) size() int {
	return len(t.Basics) + len(t.Causes)
}

// names returns the names of the events.
func (t Tree) names() []string {
	basics := lists.Transform(t.Basics, func(b Basic) string { return b.Name })
	causes := lists.Transform(t.Causes, func(c Cause) string { return c.Name })
	return append(basics, causes...)
}

// renumbered returns a copy of a tree whose basic events have numbers from one on, and whose gates from another one, as nodes.
func (t Tree) renumbered(basics, gates int) Tree {
	number := func(node int) int {
		if node < len(t.Basics) {
			return basics + node
		}
		return gates + node - len(t.Basics)
	}
	out := Tree{Basics: slices.Clone(t.Basics), Causes: slices.Clone(t.Causes), Gates: slices.Clone(t.Gates)}
	for i, c := range t.Causes {
		out.Causes[i].Members = lists.Transform(c.Members, number)
	}
	for i, g := range t.Gates {
		out.Gates[i].Inputs = lists.Transform(g.Inputs, number)
	}
	return out
}

// clone returns a copy of a tree.
func (t Tree) clone() Tree {
	return t.renumbered(0, len(t.Basics))
}

// Size returns the number of events of a tree.
func Size(t Tree) (int, api.Errno) {
	if e := CheckTree(t); e != api.OK {
		return 0, e
	}
	return t.size(), api.OK
}

// Dual returns the dual tree.
func Dual(t Tree) (Tree, api.Errno) {
	if e := checks.First(CheckTree(t), checks.Unless(len(t.Causes) == 0, api.ErrRule)); e != api.OK {
		return Tree{}, e
	}
	out := t.clone()
	for i, b := range t.Basics {
		out.Basics[i].Chance = MaxChance - b.Chance
	}
	table := kinds()
	for i, g := range out.Gates {
		out.Gates[i] = table[g.Kind].dual(g)
	}
	return out, api.OK
}

// Tested returns the tree with another chance of an event.
func Tested(t Tree, event, chance int) (Tree, api.Errno) {
	if e := checks.First(CheckTree(t), t.checkEvent(event), checkChance(chance)); e != api.OK {
		return Tree{}, e
	}
	out := t.clone()
	if basics := len(t.Basics); event < basics {
		out.Basics[event].Chance = chance
	} else {
		out.Causes[event-basics].Chance = chance
	}
	return out, api.OK
}

// Without returns the tree without a common cause.
func Without(t Tree, cause int) (Tree, api.Errno) {
	if e := checks.First(CheckTree(t), checks.Index(cause, len(t.Causes))); e != api.OK {
		return Tree{}, e
	}
	out := t.clone()
	out.Causes = slices.Delete(out.Causes, cause, cause+1)
	return out, api.OK
}

// checkMerged returns the error with which two trees without errors cannot be merged by a kind, or OK.
func checkMerged(a, b Tree, kind string) api.Errno {
	return checks.First(
		checks.Unless(kind == andKind || kind == orKind, api.ErrKind),
		checks.Each(slices.Concat(a.names(), b.names()), checks.Once[string]()),
		checks.Most(a.size()+b.size(), MaxEvents),
		checks.Most(len(a.Gates)+len(b.Gates)+1, MaxGates),
	)
}

// Merge returns two trees under one gate.
func Merge(a, b Tree, kind string) (Tree, api.Errno) {
	if e := checks.First(CheckTree(a), CheckTree(b), checkMerged(a, b, kind)); e != api.OK {
		return Tree{}, e
	}
	basics := len(a.Basics) + len(b.Basics)
	behind := basics + len(a.Gates)
	first, second := a.renumbered(0, basics), b.renumbered(len(a.Basics), behind)
	top := Gate{Kind: kind, Inputs: []int{behind - 1, behind + len(b.Gates) - 1}}
	return Tree{
		Basics: slices.Concat(first.Basics, second.Basics),
		Causes: slices.Concat(first.Causes, second.Causes),
		Gates:  slices.Concat(first.Gates, second.Gates, []Gate{top}),
	}, api.OK
}
