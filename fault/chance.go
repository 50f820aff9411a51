package fault

import (
	"slices"

	"tideway/api"
	"tideway/checks"
	"tideway/ratios"
	"tideway/sets"
)

// chances is the chances of the events of a tree by their numbers: 0 for events that it does not have.
type chances [MaxEvents]int

// whole is the weight of what is certain. Weights are shares of it: it has the factor MaxChance for each event.
const whole = 1 << (4 * MaxEvents)

// with returns chances after some events have got another one.
func (c chances) with(chance int, events ...int) chances {
	for _, event := range events {
		c[event] = chance
	}
	return c
}

// exactly returns the weight with which the events of a set occur, and no others.
func (c chances) exactly(s sets.Set) int {
	out := 1
	for event, chance := range c {
		if !s.Has(event) {
			chance = MaxChance - chance
		}
		out *= chance
	}
	return out
}

// atLeast returns the weight with which the events of a set occur, whatever others do.
func (c chances) atLeast(s sets.Set) int {
	out := 1
	for event, chance := range c {
		if !s.Has(event) {
			chance = MaxChance
		}
		out *= chance
	}
	return out
}

// weight returns the weight with which the top event fails by chances.
func (n nodes) weight(c chances) int {
	out := 0
	for s := range n.those(n.isCut) {
		out += c.exactly(s)
	}
	return out
}

// probability returns the probability of the top event by chances.
func (n nodes) probability(c chances) api.Ratio {
	return ratios.Lowest(n.weight(c), whole)
}

// Chance returns the probability of the top event.
func Chance(t Tree) (api.Ratio, api.Errno) {
	return Given(t, nil, nil)
}

// Given returns the probability of the top event if some events occur and others do not.
func Given(t Tree, occur, not []int) (api.Ratio, api.Errno) {
	if e := checks.First(CheckTree(t), t.checkSet(occur), t.checkSet(not)); e != api.OK {
		return api.Ratio{}, e
	}
	if sets.Of(occur)&sets.Of(not) != 0 {
		return api.Ratio{}, api.ErrConflict
	}
	n := t.nodes()
	return n.probability(n.chances.with(MaxChance, occur...).with(0, not...)), api.OK
}

// Importance returns by how much an event raises the probability of the top event.
func Importance(t Tree, event int) (api.Ratio, api.Errno) {
	if e := checks.First(CheckTree(t), t.checkEvent(event)); e != api.OK {
		return api.Ratio{}, e
	}
	n := t.nodes()
	with, without := n.chances.with(MaxChance, event), n.chances.with(0, event)
	return ratios.Lowest(n.weight(with)-n.weight(without), whole), api.OK
}

// Critical returns in how many sets of the other events an event decides.
func Critical(t Tree, event int) (int, api.Errno) {
	if e := checks.First(CheckTree(t), t.checkEvent(event)); e != api.OK {
		return 0, e
	}
	n := t.nodes()
	out := 0
	for s := range n.those(n.isCut) {
		// A cut set without the event stays one without it: so it is not counted.
		if !n.isCut(s &^ sets.Only(event)) {
			out++
		}
	}
	return out, api.OK
}

// Share returns the probability that an event occurred, if the top event did.
func Share(t Tree, event int) (api.Ratio, api.Errno) {
	if e := checks.First(CheckTree(t), t.checkEvent(event)); e != api.OK {
		return api.Ratio{}, e
	}
	n := t.nodes()
	top := n.weight(n.chances)
	if top == 0 {
		return api.Ratio{}, api.ErrZero
	}
	both := n.chances[event] * n.weight(n.chances.with(MaxChance, event))
	return ratios.Lowest(both, MaxChance*top), api.OK
}

// Bound returns the sum of the probabilities of all minimal cut sets.
func Bound(t Tree) (api.Ratio, api.Errno) {
	if e := CheckTree(t); e != api.OK {
		return api.Ratio{}, e
	}
	n := t.nodes()
	sum := 0
	for _, s := range n.cuts() {
		sum += n.chances.atLeast(s)
	}
	return ratios.Lowest(sum, whole), api.OK
}

// checkMost returns the first error of the greatest chances of events, or OK.
func (l events) checkMost(most []int) api.Errno {
	if len(most) != len(l.strikes) {
		return api.ErrShape
	}
	event := 0
	return checks.Each(most, func(chance int) api.Errno {
		least := l.chances[event]
		event++
		return checks.First(checkChance(chance), checks.Unless(chance >= least, api.ErrOrder))
	})
}

// Interval returns the least and the greatest probability of the top event.
func Interval(t Tree, most []int) ([2]api.Ratio, api.Errno) {
	if e := CheckTree(t); e != api.OK {
		return [2]api.Ratio{}, e
	}
	n := t.nodes()
	if e := n.checkMost(most); e != api.OK {
		return [2]api.Ratio{}, e
	}
	var greatest chances
	copy(greatest[:], most)
	return [2]api.Ratio{n.probability(n.chances), n.probability(greatest)}, api.OK
}

// weightsWithout returns, for each event, the weight with which the top event fails without its chance.
func (n nodes) weightsWithout() []int {
	out := slices.Repeat([]int{n.weight(n.chances)}, len(n.strikes))
	for event := range out {
		// An event that never occurs changes nothing.
		if without := n.chances.with(0, event); without != n.chances {
			out[event] = n.weight(without)
		}
	}
	return out
}

// Next returns the best event to test.
func Next(t Tree) (int, api.Ratio, api.Errno) {
	if e := CheckTree(t); e != api.OK {
		return 0, api.Ratio{}, e
	}
	n := t.nodes()
	weights := n.weightsWithout()
	least := slices.Min(weights)
	p := ratios.Lowest(least, whole)
	if p == n.probability(n.chances) {
		return 0, api.Ratio{}, api.ErrNone
	}
	return slices.Index(weights, least), p, api.OK
}
