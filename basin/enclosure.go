package basin

import (
	"tideway/api"
	"tideway/checks"
	"tideway/lists"
)

// ends are both ends of an interval; a side is the index of one of them.
type ends [2]int

const (
	lowerSide = 0
	upperSide = 1
)

func endsOf(x api.Interval) ends {
	return ends{x.Low, x.High}
}

func (x ends) interval() api.Interval {
	return api.Interval{Low: x[lowerSide], High: x[upperSide]}
}

func (x ends) ordered() ends {
	return ends{min(x[0], x[1]), max(x[0], x[1])}
}

// check returns ErrRange if an end is not from low to high, then ErrOrder if the lower one is above the upper one.
func (x ends) check(low, high int) api.Errno {
	return checks.First(
		checks.Each(x[:], func(end int) api.Errno { return checks.Range(end, low, high) }),
		checks.Unless(x == x.ordered(), api.ErrOrder),
	)
}

// contains reports whether a number is not outside both ends.
func (x ends) contains(number int) bool {
	return x[lowerSide] <= number && number <= x[upperSide]
}

// endsAt returns the ends of intervals on one side.
func endsAt(l []api.Interval, side int) []int {
	return lists.Transform(l, func(x api.Interval) int { return endsOf(x)[side] })
}

// CheckRange returns the first error of a range of a basin, or OK.
func CheckRange(b Basin, r Range) api.Errno {
	return checks.First(CheckBasin(b), b.checkRange(r))
}

// checkRange returns the first error of a range itself, or OK.
func (b Basin) checkRange(r Range) api.Errno {
	return checks.First(
		endsOf(r.Tide).check(-MaxHeight, MaxHeight),
		b.checkIntervals(r.Inflow, MaxInflow),
	)
}

// checkIntervals returns the first error of intervals of the nodes, from 0 to a greatest number, or OK.
func (b Basin) checkIntervals(l []api.Interval, highest int) api.Errno {
	return checks.First(
		b.checkShape(len(l)),
		checks.Each(l, func(x api.Interval) api.Errno { return endsOf(x).check(0, highest) }),
	)
}

// checkEnclosed returns the first error of a basin, of intervals of its volumes and of ranges, or OK.
func checkEnclosed(b Basin, v []api.Interval, l []Range) api.Errno {
	return checks.First(CheckBasin(b), b.checkIntervals(v, MaxVolume), checkTicks(l, b.checkRange))
}

// Within reports whether a condition is permitted by a range.
func Within(b Basin, r Range, c Condition) (bool, api.Errno) {
	if e := checks.First(CheckRange(b, r), b.checkCondition(c)); e != api.OK {
		return false, e
	}
	permitted := r.Open == c.Open && endsOf(r.Tide).contains(c.Tide)
	for node, inflow := range c.Inflow {
		permitted = permitted && endsOf(r.Inflow[node]).contains(inflow)
	}
	return permitted, api.OK
}

// Corner returns the conditions at the lower or the upper ends of ranges.
func Corner(b Basin, l []Range, upper bool) ([]Condition, api.Errno) {
	if e := checks.First(CheckBasin(b), checkTicks(l, b.checkRange)); e != api.OK {
		return nil, e
	}
	if upper {
		return corner(l, upperSide), api.OK
	}
	return corner(l, lowerSide), api.OK
}

// corner returns the conditions at the ends of ranges on one side.
func corner(l []Range, side int) []Condition {
	return lists.Transform(l, func(r Range) Condition {
		return Condition{Tide: endsOf(r.Tide)[side], Open: r.Open, Inflow: endsAt(r.Inflow, side)}
	})
}

// passSide makes the steps with all ends on one side.
// More volume, inflow or tide never leaves less behind: so the volumes of all permitted runs lie between those of both sides.
func passSide(b Basin, v []api.Interval, l []Range, side int) ([]passed, api.Errno) {
	return passAll(b, endsAt(v, side), corner(l, side))
}

// Enclose returns, behind each step, the volumes that each node may have.
func Enclose(b Basin, v []api.Interval, l []Range) ([][]api.Interval, api.Errno) {
	if e := checkEnclosed(b, v, l); e != api.OK {
		return nil, e
	}
	lower, tooLarge := passSide(b, v, l, lowerSide)
	upper, e := passSide(b, v, l, upperSide)
	if e := checks.First(tooLarge, e); e != api.OK {
		return nil, e
	}
	out := make([][]api.Interval, len(l))
	for tick := range len(l) {
		out[tick] = between(lower[tick].volumes, upper[tick].volumes)
	}
	return out, api.OK
}

// between returns the intervals from lower volumes to upper ones.
func between(lower, upper []int) []api.Interval {
	both := make([]ends, len(lower))
	for node, volume := range lower {
		both[node] = ends{volume, upper[node]}
	}
	return lists.Transform(both, ends.interval)
}

// Safe reports whether no node can be above its limit.
func Safe(b Basin, v []api.Interval, l []Range) (bool, api.Errno) {
	if e := checkEnclosed(b, v, l); e != api.OK {
		return false, e
	}
	return isSafe(b, v, l)
}

// isSafe reports whether no node is above its limit with all upper ends: then none can be.
func isSafe(b Basin, v []api.Interval, l []Range) (bool, api.Errno) {
	upper, e := passSide(b, v, l, upperSide)
	if e != api.OK {
		return false, e
	}
	_, _, found := firstAbove(b, upper)
	return !found, api.OK
}

// Latest returns the latest step from which on the barrier is to be closed.
func Latest(b Basin, v []api.Interval, l []Range) (int, api.Errno) {
	if e := checkEnclosed(b, v, l); e != api.OK {
		return 0, e
	}
	for closing := len(l); closing >= 0; closing-- {
		safe, e := isSafe(b, v, closedFrom(l, closing))
		if e != api.OK {
			return 0, e
		}
		if safe {
			return closing, api.OK
		}
	}
	return 0, api.ErrInfeasible
}

// closedFrom returns ranges with the barrier open before a step and closed from it on.
func closedFrom(l []Range, step int) []Range {
	out := make([]Range, len(l))
	for tick, r := range l {
		out[tick] = Range{Tide: r.Tide, Open: tick < step, Inflow: r.Inflow}
	}
	return out
}
