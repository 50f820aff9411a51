package policy

import (
	"iter"
	"maps"
	"slices"

	"tideway/api"
	"tideway/checks"
	"tideway/lists"
)

// plan is the histories behind which the barrier is closed for some members, and the numbers of these closings.
type plan struct {
	numbers numbers
	closed  []history
}

func (p plan) plus(other plan) plan {
	return plan{numbers: p.numbers.plus(other.numbers), closed: slices.Concat(p.closed, other.closed)}
}

// plans has a best plan for each weight that plans for some members keep.
// Members with different histories do not touch each other: so best plans consist of best ones for the parts.
type plans map[int]plan

// add adds a plan if there is none as good for its weight.
func (l plans) add(weight int, p plan) {
	if old, ok := l[weight]; ok && better(p.numbers, old.numbers) == old.numbers {
		return
	}
	l[weight] = p
}

// inOrder visits the weights from the least on, with their plans.
func (l plans) inOrder() iter.Seq2[int, plan] {
	return func(yield func(int, plan) bool) {
		for _, weight := range slices.Sorted(maps.Keys(l)) {
			if !yield(weight, l[weight]) {
				return
			}
		}
	}
}

// with returns the plans for the members of both.
func (l plans) with(other plans) plans {
	out := plans{}
	for a, p := range l.inOrder() {
		for b, q := range other.inOrder() {
			out.add(a+b, p.plus(q))
		}
	}
	return out
}

// plans returns the plans from a tide on for members with the same history before it, by the closings before it.
func (s Season) plans(members []int, tide int, c closings) plans {
	if tide == len(s.Ships) {
		return plans{s.weight(s.keptOf(members, c)): {}}
	}
	out := plans{0: {}}
	for _, same := range s.split(members, tide) {
		out = out.with(s.choices(same, tide, c))
	}
	return out
}

// choices returns the plans from a tide on for members with the same history up to it.
func (s Season) choices(members []int, tide int, c closings) plans {
	closing := plan{
		numbers: s.closingOf(members, tide),
		closed:  []history{s.Members[members[0]].history(tide)},
	}
	out := plans{}
	for weight, p := range s.plans(members, tide+1, c).inOrder() {
		out.add(weight, p)
	}
	c[tide] = true
	for weight, p := range s.plans(members, tide+1, c).inOrder() {
		out.add(weight, closing.plus(p))
	}
	return out
}

// split returns the lists of the members with the same history up to a tide.
func (s Season) split(members []int, tide int) [][]int {
	return lists.Grouped(members, func(member int) history { return s.Members[member].history(tide) })
}

// keptOf returns those of some members that closings keep.
func (s Season) keptOf(members []int, c closings) []int {
	var out []int
	for _, member := range members {
		if s.isKept(member, c) {
			out = append(out, member)
		}
	}
	return out
}

// best returns a best plan for a needed weight, and whether there is one.
func (s Season) best(need int) (plan, bool) {
	var out plan
	found := false
	for weight, p := range s.plans(s.allMembers(), 0, closings{}).inOrder() {
		if weight >= need && (!found || better(out.numbers, p.numbers) != out.numbers) {
			out, found = p, true
		}
	}
	return out, found
}

// Most returns the greatest weight that a policy keeps.
func Most(s Season) (int, api.Errno) {
	if e := CheckSeason(s); e != api.OK {
		return 0, e
	}
	most := 0
	for weight := range s.plans(s.allMembers(), 0, closings{}) {
		most = max(most, weight)
	}
	return most, api.OK
}

// Best returns a policy that keeps a weight with the fewest closings, and their weighted number, and the delay.
func Best(s Season, need int) (Policy, int, int, api.Errno) {
	if e := checks.First(CheckSeason(s), checkNeed(need)); e != api.OK {
		return Policy{}, 0, 0, e
	}
	p, found := s.best(need)
	if !found {
		return Policy{}, 0, 0, api.ErrInfeasible
	}
	isClosed := func(h history) bool { return slices.Contains(p.closed, h) }
	return s.policy(isClosed), p.numbers.closings, p.numbers.delay, api.OK
}
