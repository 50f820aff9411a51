package gate

import (
	"slices"

	"tideway/api"
	"tideway/checks"
)

// The kinds of failures.
const (
	noFailure = "none"
	lostInput = "lost"
	stuckBit  = "stuck"
)

// kind is what failures of a kind have in common.
type kind struct {
	name   string
	check  func(f Failure, ticks int) api.Errno              // the first error of the numbers of a failure of a script with so many ticks
	change func(f Failure, tick int, in Input) (Input, bool) // what a failure makes of the input of a tick, and whether it comes at all
}

func kinds() [3]kind {
	return [3]kind{
		{name: noFailure, check: checkNone, change: keep},
		{name: lostInput, check: checkLost, change: lose},
		{name: stuckBit, check: checkStuck, change: stick},
	}
}

// kindOf returns the kind with a name, and whether there is one.
func kindOf(name string) (kind, bool) {
	for _, k := range kinds() {
		if k.name == name {
			return k, true
		}
	}
	return kind{}, false
}

func checkNone(f Failure, _ int) api.Errno {
	return checks.Unless(f == Failure{Kind: f.Kind}, api.ErrForm)
}

func checkLost(f Failure, ticks int) api.Errno {
	return checks.First(checks.Unless(f == Failure{Kind: f.Kind, At: f.At}, api.ErrForm), checks.Range(f.At, 0, ticks-1))
}

func checkStuck(f Failure, ticks int) api.Errno {
	return checks.First(checks.Range(f.At, 0, ticks-1), checks.Range(f.Bit, 0, bitCount-1), checks.Range(f.Value, 0, 1))
}

func keep(_ Failure, _ int, in Input) (Input, bool) {
	return in, true
}

func lose(f Failure, tick int, in Input) (Input, bool) {
	return in, tick != f.At
}

func stick(f Failure, tick int, in Input) (Input, bool) {
	if tick >= f.At {
		b := bitsOf(in.Conditions)
		b[f.Bit] = f.Value == 1
		in.Conditions = b.conditions()
	}
	return in, true
}

// check returns the error of a failure of a script with so many ticks, or OK.
func (f Failure) check(ticks int) api.Errno {
	k, ok := kindOf(f.Kind)
	if !ok {
		return api.ErrKind
	}
	return k.check(f, ticks)
}

// checkGoal returns the first error of a goal for a script with so many ticks, or OK.
func (c Chart) checkGoal(g Goal, ticks int) api.Errno {
	return checks.First(
		c.checkIndices(g.Closed),
		c.checkIndices(g.Told),
		checks.Range(g.Latest, 0, ticks),
		checks.Range(g.Earlier, 0, ticks),
	)
}

// course returns the leaf after each number of ticks, from 0 on, of a script with a failure, or ErrConflict if an input that comes is ambiguous.
func (m machine) course(l []Input, f Failure) ([]int, api.Errno) {
	k, _ := kindOf(f.Kind)
	out := []int{m.start}
	for tick := range len(l) {
		leaf := out[tick]
		if in, comes := k.change(f, tick, l[tick]); comes {
			a, next := m.react(leaf, in)
			if a == ambiguous {
				return nil, api.ErrConflict
			}
			leaf = next
		}
		out = append(out, leaf)
	}
	return out, api.OK
}

// isServedBy reports whether a course serves a goal.
func (g Goal) isServedBy(course []int) bool {
	tells := func(leaf int) bool { return slices.Contains(g.Told, leaf) }
	return slices.Contains(g.Closed, course[g.Latest]) || slices.ContainsFunc(course[:g.Earlier+1], tells)
}

// failures returns the failures of a script with so many ticks, in order.
func failures(ticks int) []Failure {
	out := []Failure{{Kind: noFailure}}
	for tick := range ticks {
		out = append(out, Failure{Kind: lostInput, At: tick})
		for bit := range bitCount {
			for value := range 2 {
				out = append(out, Failure{Kind: stuckBit, At: tick, Bit: bit, Value: value})
			}
		}
	}
	return out
}

// Run returns the leaves after each input.
func Run(c Chart, l []Input) ([]int, api.Errno) {
	return Play(c, l, Failure{Kind: noFailure})
}

// Failures returns the failures of a script.
func Failures(l []Input) ([]Failure, api.Errno) {
	if e := checkScript(l); e != api.OK {
		return nil, e
	}
	return failures(len(l)), api.OK
}

// Play returns the leaves after each tick of a script with a failure.
func Play(c Chart, l []Input, f Failure) ([]int, api.Errno) {
	if e := checks.First(CheckChart(c), checkScript(l), f.check(len(l))); e != api.OK {
		return nil, e
	}
	course, e := c.machine().course(l, f)
	if e != api.OK {
		return nil, e
	}
	return course[1:], api.OK
}

// Serves reports whether a script serves a goal with a failure.
func Serves(c Chart, l []Input, g Goal, f Failure) (bool, api.Errno) {
	if e := checks.First(CheckChart(c), checkScript(l), c.checkGoal(g, len(l)), f.check(len(l))); e != api.OK {
		return false, e
	}
	course, e := c.machine().course(l, f)
	if e != api.OK {
		return false, e
	}
	return g.isServedBy(course), api.OK
}

// Weak returns the failures with which a script does not serve a goal.
func Weak(c Chart, l []Input, g Goal) ([]Failure, api.Errno) {
	if e := checks.First(CheckChart(c), checkScript(l), c.checkGoal(g, len(l))); e != api.OK {
		return nil, e
	}
	m := c.machine()
	var out []Failure
	for _, f := range failures(len(l)) {
		course, e := m.course(l, f)
		if e != api.OK {
			return nil, e
		}
		if !g.isServedBy(course) {
			out = append(out, f)
		}
	}
	return out, api.OK
}
