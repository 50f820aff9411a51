package closing

import (
	"slices"

	"tideway/api"
	"tideway/checks"
	"tideway/lists"
)

// plan is phases without errors. Its methods take the greatest durations, if they do not say otherwise.
type plan []Phase

// short returns the plan in which each phase takes its least duration.
func (l plan) short() plan {
	out := slices.Clone(l)
	for phase := range out {
		out[phase].Most = out[phase].Least
	}
	return out
}

// starts returns the starts of all phases.
func (l plan) starts() []int {
	out := make([]int, len(l))
	for phase := range len(l) {
		for _, before := range l[phase].Before {
			out[phase] = max(out[phase], out[before]+l[before].Most)
		}
	}
	return out
}

// duration returns the greatest end.
func (l plan) duration() int {
	out := 0
	for phase, start := range l.starts() {
		out = max(out, start+l[phase].Most)
	}
	return out
}

// rests returns, for each phase, the greatest sum of durations of a chain that begins with it.
func (l plan) rests() []int {
	out := make([]int, len(l))
	for phase := len(l) - 1; phase >= 0; phase-- {
		out[phase] += l[phase].Most
		for _, before := range l[phase].Before {
			out[before] = max(out[before], out[phase])
		}
	}
	return out
}

// critical returns the critical chain. No phase goes on with it when the duration is used up: the chain that ends there comes first.
func (l plan) critical() []int {
	var out []int
	rests := l.rests()
	left := l.duration()
	for phase, p := range l {
		follows := len(out) == 0 || slices.Contains(p.Before, out[len(out)-1])
		if left > 0 && follows && rests[phase] == left {
			out = append(out, phase)
			left -= p.Most
		}
	}
	return out
}

// latest returns the latest starts by a deadline: behind each one there is room for the rest.
func (l plan) latest(deadline int) []int {
	return lists.Transform(l.rests(), func(rest int) int { return deadline - rest })
}

// checkLong returns the first error of a plan and a deadline, by which it has to end with its greatest durations, or OK.
func checkLong(l []Phase, deadline int) api.Errno {
	if e := checks.First(CheckPlan(l), checkTick(deadline)); e != api.OK {
		return e
	}
	return checks.Unless(plan(l).keeps(deadline), api.ErrInfeasible)
}

// keeps reports whether all phases end by a deadline.
func (l plan) keeps(deadline int) bool {
	return l.duration() <= deadline
}

// Times returns the starts of all phases, with their least or their greatest durations.
func Times(l []Phase, long bool) ([]int, api.Errno) {
	if e := CheckPlan(l); e != api.OK {
		return nil, e
	}
	if long {
		return plan(l).starts(), api.OK
	}
	return plan(l).short().starts(), api.OK
}

// Duration returns the duration of a plan.
func Duration(l []Phase) (api.Interval, api.Errno) {
	if e := CheckPlan(l); e != api.OK {
		return api.Interval{}, e
	}
	return api.Interval{Low: plan(l).short().duration(), High: plan(l).duration()}, api.OK
}

// Critical returns the critical chain.
func Critical(l []Phase) ([]int, api.Errno) {
	if e := CheckPlan(l); e != api.OK {
		return nil, e
	}
	return plan(l).critical(), api.OK
}

// Latest returns the latest starts by a deadline.
func Latest(l []Phase, deadline int) ([]int, api.Errno) {
	if e := checkLong(l, deadline); e != api.OK {
		return nil, e
	}
	return plan(l).latest(deadline), api.OK
}

// Slack returns how much later each phase can start.
func Slack(l []Phase, deadline int) ([]int, api.Errno) {
	if e := checkLong(l, deadline); e != api.OK {
		return nil, e
	}
	out := plan(l).latest(deadline)
	for phase, start := range plan(l).starts() {
		out[phase] -= start
	}
	return out, api.OK
}

// Fatal returns the fatal times by a deadline.
func Fatal(l []Phase, deadline int) ([]int, api.Errno) {
	if e := checks.First(CheckPlan(l), checkTick(deadline)); e != api.OK {
		return nil, e
	}
	short := plan(l).short()
	if !short.keeps(deadline) {
		return nil, api.ErrInfeasible
	}
	// A phase that ends at its fatal time has started at the latest start of the short plan.
	out := short.latest(deadline)
	for phase, p := range short {
		out[phase] += p.Most
	}
	return out, api.OK
}
