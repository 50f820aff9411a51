package gate

import (
	"slices"
	"strings"

	"tideway/api"
	"tideway/lists"
	"tideway/texts"
)

// The first words of lines, and the number of digits that integers may have.
const (
	stateLine = "state"
	moveLine  = "move"
	maxDigits = 9
)

// Print returns the text of a chart.
func Print(c Chart) (string, api.Errno) {
	if e := CheckChart(c); e != api.OK {
		return "", e
	}
	states := lists.Transform(c.States, State.line)
	moves := lists.Transform(c.Transitions, Transition.line)
	return strings.Join(slices.Concat(states, moves), ""), api.OK
}

func (s State) line() string {
	moves := 0
	if s.Moves {
		moves = 1
	}
	return stateLine + " " + s.Name + texts.Numbered(s.Parent, s.Initial, moves) + "\n"
}

func (t Transition) line() string {
	return moveLine + texts.Numbered(t.From) + " " + t.Event + texts.Numbered(t.To, t.Mask, t.Value) + "\n"
}

// Parse returns the chart of a text, and the index of the first line that is wrong.
func Parse(s string) (Chart, int, api.Errno) {
	return texts.Parse(s, api.MaxLog, (*Chart).read, CheckChart)
}

// read adds the state or the transition of a line, and reports whether the line has its form.
func (c *Chart) read(line string) bool {
	words, ended := texts.Read(line)
	next := words.Next
	switch next() {
	case stateLine:
		return ended && c.readState(next) && words.Done()
	case moveLine:
		return ended && c.readMove(next) && words.Done()
	}
	return false
}

// readState adds a state, which stands before all transitions.
func (c *Chart) readState(next func() string) bool {
	s := State{Name: next()}
	if s.Name == "" || !texts.Integers(next, maxDigits, &s.Parent, &s.Initial) {
		return false
	}
	moves, ok := texts.Unsigned(next(), 1)
	s.Moves = moves == 1
	c.States = append(c.States, s)
	return ok && moves <= 1 && len(c.Transitions) == 0
}

func (c *Chart) readMove(next func() string) bool {
	var t Transition
	if !texts.Integers(next, maxDigits, &t.From) {
		return false
	}
	t.Event = next()
	ok := texts.Integers(next, maxDigits, &t.To, &t.Mask, &t.Value)
	c.Transitions = append(c.Transitions, t)
	return ok && t.Event != ""
}
