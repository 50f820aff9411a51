package gate

import (
	"iter"
	"maps"
	"slices"

	"tideway/api"
	"tideway/checks"
)

func (x Case) input() Input {
	return Input{Event: x.Event, Conditions: x.Conditions}
}

// cases visits the cases of some leaves, in order.
func (m machine) cases(leaves ...int) iter.Seq[Case] {
	return func(yield func(Case) bool) {
		for _, leaf := range leaves {
			for _, event := range m.events {
				for conditions := range conditionCount {
					if !yield(Case{Leaf: leaf, Event: event, Conditions: conditions}) {
						return
					}
				}
			}
		}
	}
}

// answered returns the cases of all leaves, reachable or not, with an answer.
func (m machine) answered(wanted answer) []Case {
	var out []Case
	for x := range m.cases(m.chart.indices(State.isLeaf)...) {
		if a, _ := m.react(x.Leaf, x.input()); a == wanted {
			out = append(out, x)
		}
	}
	return out
}

// Missing returns the cases that are ignored.
func Missing(c Chart) ([]Case, api.Errno) {
	if e := CheckChart(c); e != api.OK {
		return nil, e
	}
	return c.machine().answered(ignored), api.OK
}

// Ambiguous returns the cases that are ambiguous.
func Ambiguous(c Chart) ([]Case, api.Errno) {
	if e := CheckChart(c); e != api.OK {
		return nil, e
	}
	return c.machine().answered(ambiguous), api.OK
}

// search follows the first of the shortest traces, the shorter ones first, up to one that leads to one of some states.
// It returns, for each leaf that it reaches, the last case of its trace, Case{} for the start; and the leaf among the states, or noState.
func (m machine) search(states []int) (map[int]Case, int) {
	last := map[int]Case{m.start: {}}
	if slices.Contains(states, m.start) {
		return last, m.start
	}
	found := noState
	queue := []int{m.start}
search:
	for len(queue) > 0 {
		for x := range m.cases(queue[0]) {
			// What is not taken leads to the leaf where it comes: one that is known.
			_, leaf := m.react(x.Leaf, x.input())
			if _, known := last[leaf]; known {
				continue
			}
			last[leaf] = x
			if slices.Contains(states, leaf) {
				found = leaf
				break search
			}
			queue = append(queue, leaf)
		}
		queue = queue[1:]
	}
	return last, found
}

// reachable returns the reachable leaves, ascending: a search for no state reaches all of them.
func (m machine) reachable() []int {
	last, _ := m.search(nil)
	return slices.Sorted(maps.Keys(last))
}

// Reachable returns the reachable leaves.
func Reachable(c Chart) ([]int, api.Errno) {
	if e := CheckChart(c); e != api.OK {
		return nil, e
	}
	return c.machine().reachable(), api.OK
}

// Trace returns the shortest inputs that lead to some states.
func Trace(c Chart, states []int) ([]Input, api.Errno) {
	if e := checks.First(CheckChart(c), c.checkIndices(states)); e != api.OK {
		return nil, e
	}
	last, leaf := c.machine().search(states)
	if leaf == noState {
		return nil, api.ErrNone
	}
	var out []Input
	for x := last[leaf]; x != (Case{}); x = last[x.Leaf] {
		out = append(out, x.input())
	}
	slices.Reverse(out)
	return out, api.OK
}

// CheckTrace returns OK for inputs that lead to some states.
func CheckTrace(c Chart, states []int, l []Input) api.Errno {
	if e := checks.First(CheckChart(c), c.checkIndices(states), checkScript(l)); e != api.OK {
		return e
	}
	course, e := c.machine().course(l, Failure{Kind: noFailure})
	if e != api.OK {
		return e
	}
	return checks.Unless(slices.Contains(states, course[len(l)]), api.ErrProof)
}

// isAgainst reports whether a case of a reachable leaf is against the lock.
func (m machine) isAgainst(x Case) bool {
	a, leaf := m.react(x.Leaf, x.input())
	return bitsOf(x.Conditions)[lockBit] && a != ambiguous && m.chart.States[leaf].Moves
}

// Against returns the cases that are against the lock.
func Against(c Chart) ([]Case, api.Errno) {
	if e := CheckChart(c); e != api.OK {
		return nil, e
	}
	m := c.machine()
	var out []Case
	for x := range m.cases(m.reachable()...) {
		if m.isAgainst(x) {
			out = append(out, x)
		}
	}
	return out, api.OK
}
