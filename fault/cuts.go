package fault

import (
	"slices"

	"tideway/api"
	"tideway/checks"
	"tideway/lists"
	"tideway/sets"
)

// cuts returns the minimal cut sets, in order.
func (n nodes) cuts() []sets.Set {
	return minimal(n.those(n.isCut))
}

// paths returns the minimal path sets, in order.
func (n nodes) paths() []sets.Set {
	return minimal(n.those(n.isPath))
}

// Cuts returns the minimal cut sets of a tree.
func Cuts(t Tree) ([][]int, api.Errno) {
	if e := CheckTree(t); e != api.OK {
		return nil, e
	}
	return lists.Transform(t.nodes().cuts(), sets.Set.Numbers), api.OK
}

// Paths returns the minimal path sets of a tree.
func Paths(t Tree) ([][]int, api.Errno) {
	if e := CheckTree(t); e != api.OK {
		return nil, e
	}
	return lists.Transform(t.nodes().paths(), sets.Set.Numbers), api.OK
}

// CheckCuts returns OK for cut sets and path sets that prove each other complete.
func CheckCuts(t Tree, cuts, paths [][]int) api.Errno {
	if e := checks.First(CheckTree(t), t.checkSets(cuts), t.checkSets(paths)); e != api.OK {
		return e
	}
	return checks.Unless(t.nodes().areComplete(lists.Transform(cuts, sets.Of), lists.Transform(paths, sets.Of)), api.ErrProof)
}

// areComplete reports whether sets are cut sets and path sets, of which each set of events contains a cut, or all other events a path.
func (n nodes) areComplete(cuts, paths []sets.Set) bool {
	for _, s := range cuts {
		if !n.isCut(s) {
			return false
		}
	}
	for _, s := range paths {
		if !n.isPath(s) {
			return false
		}
	}
	for s := range n.sets() {
		others := n.all() &^ s
		if !slices.ContainsFunc(cuts, s.Contains) && !slices.ContainsFunc(paths, others.Contains) {
			return false
		}
	}
	return true
}

// Single returns the events that alone make the top event occur.
func Single(t Tree) ([]int, api.Errno) {
	if e := CheckTree(t); e != api.OK {
		return nil, e
	}
	n := t.nodes()
	var out []int
	for event := range t.size() {
		if n.isCut(sets.Only(event)) {
			out = append(out, event)
		}
	}
	return out, api.OK
}
