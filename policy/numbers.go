package policy

import (
	"tideway/api"
	"tideway/checks"
	"tideway/ratios"
)

// numbers are the weighted number of closings of a policy, or of a part of it, and its delay.
type numbers struct {
	closings int
	delay    int
}

func (n numbers) plus(other numbers) numbers {
	return numbers{closings: n.closings + other.closings, delay: n.delay + other.delay}
}

// better returns the numbers with fewer closings; of as many those with less delay.
func better(a, b numbers) numbers {
	if a.closings < b.closings || a.closings == b.closings && a.delay < b.delay {
		return a
	}
	return b
}

// weight returns the weight of some members.
func (s Season) weight(members []int) int {
	out := 0
	for _, member := range members {
		out += s.Members[member].Weight
	}
	return out
}

// allMembers returns all members by their numbers.
func (s Season) allMembers() []int {
	out := make([]int, len(s.Members))
	for member := range len(s.Members) {
		out[member] = member
	}
	return out
}

// closingOf returns the numbers of a closing for some members at a tide.
func (s Season) closingOf(members []int, tide int) numbers {
	weight := s.weight(members)
	return numbers{closings: weight, delay: weight * s.Ships[tide]}
}

// numbers returns the numbers of a policy.
func (s Season) numbers(p Policy) numbers {
	rules := s.rules(p)
	var out numbers
	for member, m := range s.Members {
		for tide, closed := range m.closings(rules) {
			if closed {
				out = out.plus(s.closingOf([]int{member}, tide))
			}
		}
	}
	return out
}

// kept returns the members that a policy keeps.
func (s Season) kept(p Policy) []int {
	rules := s.rules(p)
	var out []int
	for member, m := range s.Members {
		if s.isKept(member, m.closings(rules)) {
			out = append(out, member)
		}
	}
	return out
}

// regret returns the regret of a policy. A member that it keeps has first closings alone.
func (s Season) regret(p Policy) int {
	rules := s.rules(p)
	out := 0
	for _, member := range s.kept(p) {
		m := s.Members[member]
		first, _ := s.alone(member)
		out += m.Weight * (m.closings(rules).count() - first.count())
	}
	return out
}

// Kept returns the members that a policy keeps.
func Kept(s Season, p Policy) ([]int, api.Errno) {
	if e := CheckPolicy(s, p); e != api.OK {
		return nil, e
	}
	return s.kept(p), api.OK
}

// Weight returns the weight of some members.
func Weight(s Season, members []int) (int, api.Errno) {
	if e := checks.First(CheckSeason(s), s.checkNumbers(members)); e != api.OK {
		return 0, e
	}
	return s.weight(members), api.OK
}

// Chance returns the share of the weight that a policy keeps.
func Chance(s Season, p Policy) (api.Ratio, api.Errno) {
	if e := CheckPolicy(s, p); e != api.OK {
		return api.Ratio{}, e
	}
	return ratios.Lowest(s.weight(s.kept(p)), s.weight(s.allMembers())), api.OK
}

// Closings returns the weighted number of closings by a policy.
func Closings(s Season, p Policy) (int, api.Errno) {
	if e := CheckPolicy(s, p); e != api.OK {
		return 0, e
	}
	return s.numbers(p).closings, api.OK
}

// Delay returns the weighted delay of ships by a policy.
func Delay(s Season, p Policy) (int, api.Errno) {
	if e := CheckPolicy(s, p); e != api.OK {
		return 0, e
	}
	return s.numbers(p).delay, api.OK
}

// Regret returns the weighted closings of kept members beyond those that they need alone.
func Regret(s Season, p Policy) (int, api.Errno) {
	if e := CheckPolicy(s, p); e != api.OK {
		return 0, e
	}
	return s.regret(p), api.OK
}
