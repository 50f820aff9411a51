package closing

import (
	"iter"
	"maps"
	"slices"

	"tideway/api"
	"tideway/checks"
	"tideway/lists"
	"tideway/sets"
)

// all returns the set of all gates.
func (g Gates) all() sets.Set {
	return sets.Below(len(g.Strength))
}

// force returns the force on a gate, if the gates of a set are down. Its own influence is 0.
func (g Gates) force(down sets.Set, gate int) int {
	out := g.Load[gate]
	for _, other := range down.Numbers() {
		out += g.Influence[gate][other]
	}
	return out
}

// permits reports whether a set is permitted.
func (g Gates) permits(down sets.Set) bool {
	for _, gate := range down.Numbers() {
		force := g.force(down, gate)
		if max(force, -force) > g.Strength[gate] {
			return false
		}
	}
	return true
}

// lowered visits the permitted sets that have one gate more than a set, with this gate.
func (g Gates) lowered(down sets.Set) iter.Seq2[int, sets.Set] {
	return func(yield func(int, sets.Set) bool) {
		for gate := range g.Strength {
			more := down.With(gate)
			if more != down && g.permits(more) && !yield(gate, more) {
				return
			}
		}
	}
}

// search lowers gates one by one, the first ones first, and raises the last one again if none can follow it.
// It returns the first order, or none; then it has reached all sets that can be reached.
func (g Gates) search() ([]int, map[sets.Set]bool) {
	var order []int
	reached := map[sets.Set]bool{0: true}
search:
	for len(order) < len(g.Strength) {
		for gate, more := range g.lowered(sets.Of(order)) {
			// From a set that has been left again no order goes on.
			if !reached[more] {
				reached[more] = true
				order = append(order, gate)
				continue search
			}
		}
		if len(order) == 0 {
			break search
		}
		order = order[:len(order)-1]
	}
	return order, reached
}

// areLowered reports whether the gates can be lowered in an order.
func (g Gates) areLowered(order []int) bool {
	for i := range order {
		if !g.permits(sets.Of(order[:i+1])) {
			return false
		}
	}
	return true
}

// isStuck reports whether sets are a stuck family.
func (g Gates) isStuck(family []int) bool {
	has := map[sets.Set]bool{}
	for _, s := range family {
		has[sets.Set(s)] = true
	}
	if !has[0] || has[g.all()] {
		return false
	}
	for _, s := range family {
		for _, more := range g.lowered(sets.Set(s)) {
			if !has[more] {
				return false
			}
		}
	}
	return true
}

// checkSet returns the error of a set of gates, or OK.
func (g Gates) checkSet(set int) api.Errno {
	return checks.Index(set, g.setCount())
}

// setCount returns the number of sets of gates. Sets are their own indices.
func (g Gates) setCount() int {
	return 1 << len(g.Strength)
}

// checkIndex returns the error of the index of a gate, or OK.
func (g Gates) checkIndex(gate int) api.Errno {
	return checks.Index(gate, len(g.Strength))
}

// Force returns the force on a gate, if some gates are down.
func Force(g Gates, set, gate int) (int, api.Errno) {
	if e := checks.First(CheckGates(g), g.checkSet(set), g.checkIndex(gate)); e != api.OK {
		return 0, e
	}
	return g.force(sets.Set(set), gate), api.OK
}

// Permitted reports whether a set of gates may be down.
func Permitted(g Gates, set int) (bool, api.Errno) {
	if e := checks.First(CheckGates(g), g.checkSet(set)); e != api.OK {
		return false, e
	}
	return g.permits(sets.Set(set)), api.OK
}

// Order returns the first order in which the gates can be lowered.
func Order(g Gates) ([]int, api.Errno) {
	if e := CheckGates(g); e != api.OK {
		return nil, e
	}
	order, _ := g.search()
	if len(order) == 0 {
		return nil, api.ErrInfeasible
	}
	return order, api.OK
}

// CheckOrder returns OK for an order in which the gates can be lowered.
func CheckOrder(g Gates, l []int) api.Errno {
	once := checks.Once[int]()
	if e := checks.First(
		CheckGates(g),
		checks.Unless(len(l) == len(g.Strength), api.ErrShape),
		checks.Each(l, func(gate int) api.Errno { return checks.First(g.checkIndex(gate), once(gate)) }),
	); e != api.OK {
		return e
	}
	return checks.Unless(g.areLowered(l), api.ErrForce)
}

// Stuck returns the least stuck family.
func Stuck(g Gates) ([]int, api.Errno) {
	if e := CheckGates(g); e != api.OK {
		return nil, e
	}
	order, reached := g.search()
	if len(order) > 0 {
		return nil, api.ErrNone
	}
	return lists.Transform(slices.Sorted(maps.Keys(reached)), func(s sets.Set) int { return int(s) }), api.OK
}

// CheckStuck returns OK for a stuck family.
func CheckStuck(g Gates, l []int) api.Errno {
	if e := checks.First(CheckGates(g), checkAscending(l, g.setCount())); e != api.OK {
		return e
	}
	return checks.Unless(g.isStuck(l), api.ErrProof)
}
