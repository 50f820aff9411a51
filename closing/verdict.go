package closing

import (
	"slices"

	"tideway/api"
	"tideway/checks"
)

// notEnded stands for the end of a phase that has not ended.
const notEnded = -1

// verdict is what can be said of the deadline of a plan, and whether it holds.
type verdict struct {
	name  string
	holds func(l plan, deadline int) bool
}

// verdicts returns the verdicts: the first one that holds is given.
func verdicts() [3]verdict {
	return [3]verdict{
		{name: "kept", holds: plan.keeps},
		{name: "missed", holds: func(l plan, deadline int) bool { return !l.short().keeps(deadline) }},
		{name: "open", holds: func(plan, int) bool { return true }},
	}
}

// verdict returns the verdict on a plan.
func (l plan) verdict(deadline int) string {
	table := verdicts()
	i := slices.IndexFunc(table[:], func(v verdict) bool { return v.holds(l, deadline) })
	return table[i].name
}

// checkDone returns the first error of the ends of a progress, or OK.
func (l plan) checkDone(done []int) api.Errno {
	return checks.First(
		checks.Unless(len(done) == len(l), api.ErrShape),
		checks.Each(done, func(end int) api.Errno { return checks.Range(end, notEnded, api.MaxTime) }),
	)
}

// start returns when a phase starts by the ends of phases, and whether all phases before it have ended.
func (p Phase) start(done []int) (int, bool) {
	start := 0
	for _, before := range p.Before {
		if done[before] == notEnded {
			return 0, false
		}
		start = max(start, done[before])
	}
	return start, true
}

// progressed returns a phase with the durations that it can still take by the ends of phases, its own one and a present tick, and whether there are any.
func (p Phase) progressed(done []int, end, now int) (Phase, bool) {
	start, ready := p.start(done)
	if end != notEnded {
		took := end - start
		possible := ready && end <= now && p.Least <= took && took <= p.Most
		p.Least, p.Most = took, took
		return p, possible
	}
	if ready {
		p.Least = max(p.Least, now-start)
	}
	return p, p.Least <= p.Most
}

// progressed returns the plan with the durations that its phases can still take by a progress, and whether it is possible.
func (l plan) progressed(done []int, now int) (plan, bool) {
	out := slices.Clone(l)
	for phase, p := range l {
		left, possible := p.progressed(done, done[phase], now)
		if !possible {
			return nil, false
		}
		out[phase] = left
	}
	return out, true
}

// Verdict returns whether the deadline is kept, missed, or open.
func Verdict(l []Phase, deadline int, done []int, now int) (string, api.Errno) {
	if e := checks.First(CheckPlan(l), checkTick(deadline), plan(l).checkDone(done), checkTick(now)); e != api.OK {
		return "", e
	}
	left, possible := plan(l).progressed(done, now)
	if !possible {
		return "", api.ErrConflict
	}
	return left.verdict(deadline), api.OK
}
