package gate

import (
	"iter"
	"slices"

	"tideway/api"
	"tideway/checks"
	"tideway/lists"
)

func (s State) isLeaf() bool {
	return s.Initial == noState
}

// indices returns the indices of the states that are as asked for, ascending.
func (c Chart) indices(are func(State) bool) []int {
	var out []int
	for i, s := range c.States {
		if are(s) {
			out = append(out, i)
		}
	}
	return out
}

// events returns the events of a chart, in the order of their first transitions.
func (c Chart) events() []string {
	return lists.Distinct(lists.Transform(c.Transitions, func(t Transition) string { return t.Event }))
}

// enter returns the leaf to which entering a state leads.
func (c Chart) enter(state int) int {
	for !c.States[state].isLeaf() {
		state = c.States[state].Initial
	}
	return state
}

// around visits a leaf and the states around it, from the innermost one on.
func (c Chart) around(leaf int) iter.Seq[int] {
	return func(yield func(int) bool) {
		for state := leaf; state != noState; state = c.States[state].Parent {
			if !yield(state) {
				return
			}
		}
	}
}

// direct returns a chart whose transitions lead to the leaves to which entering their states leads.
func (c Chart) direct() Chart {
	out := Chart{States: c.States, Transitions: slices.Clone(c.Transitions)}
	for i, t := range out.Transitions {
		out.Transitions[i].To = c.enter(t.To)
	}
	return out
}

// machine is a chart without errors whose transitions lead to leaves, with its events and its start.
type machine struct {
	chart  Chart
	events []string
	start  int
}

// machine returns the machine of a chart without errors.
func (c Chart) machine() machine {
	return machine{chart: c.direct(), events: c.events(), start: c.enter(0)}
}

// answer is what an input does in a leaf.
type answer int

const (
	ignored answer = iota
	taken
	ambiguous
)

// react returns what an input does in a leaf, and the leaf to which it leads: the same one if it is not taken.
func (m machine) react(leaf int, in Input) (answer, int) {
	l := m.fitting(leaf, in)
	switch len(l) {
	case 0:
		return ignored, leaf
	case 1:
		return taken, l[0].To
	}
	return ambiguous, leaf
}

// fitting returns those of the transitions that fit an input in a leaf whose From is the innermost state.
func (m machine) fitting(leaf int, in Input) []Transition {
	for state := range m.chart.around(leaf) {
		var out []Transition
		for _, t := range m.chart.Transitions {
			if t.From == state && t.asks(in) {
				out = append(out, t)
			}
		}
		if len(out) > 0 {
			return out
		}
	}
	return nil
}

// asks reports whether a transition is one for the event and the conditions of an input.
func (t Transition) asks(in Input) bool {
	return t.Event == in.Event && bitsOf(in.Conditions).within(bitsOf(t.Mask)) == bitsOf(t.Value)
}

// Leaves returns the leaves of a chart.
func Leaves(c Chart) ([]int, api.Errno) {
	if e := CheckChart(c); e != api.OK {
		return nil, e
	}
	return c.indices(State.isLeaf), api.OK
}

// Events returns the events of a chart.
func Events(c Chart) ([]string, api.Errno) {
	if e := CheckChart(c); e != api.OK {
		return nil, e
	}
	return c.events(), api.OK
}

// Start returns the leaf in which a chart starts.
func Start(c Chart) (int, api.Errno) {
	if e := CheckChart(c); e != api.OK {
		return 0, e
	}
	return c.enter(0), api.OK
}

// Step returns the leaf to which an input leads.
func Step(c Chart, leaf int, in Input) (int, api.Errno) {
	if e := checks.First(CheckChart(c), c.checkLeaf(leaf), checkInput(in)); e != api.OK {
		return 0, e
	}
	a, next := c.machine().react(leaf, in)
	if a == ambiguous {
		return 0, api.ErrConflict
	}
	return next, api.OK
}
