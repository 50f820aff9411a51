package policy

import (
	"cmp"
	"maps"
	"slices"

	"tideway/api"
	"tideway/checks"
	"tideway/lists"
)

// history is the classes of a member at the first tides. Those of the other tides are 0, so that histories can be compared.
type history struct {
	tides   int
	classes [MaxTides]int
}

// history returns the history of a member up to a tide.
func (m Member) history(tide int) history {
	out := history{tides: tide + 1}
	copy(out.classes[:], m.Classes[:out.tides])
	return out
}

func (h history) compare(other history) int {
	return cmp.Or(cmp.Compare(h.tides, other.tides), slices.Compare(h.classes[:], other.classes[:]))
}

func (h history) list() []int {
	return slices.Clone(h.classes[:h.tides])
}

// histories returns the histories of a season, in order.
func (s Season) histories() []history {
	known := map[history]bool{}
	for _, m := range s.Members {
		for tide := range len(s.Ships) {
			known[m.history(tide)] = true
		}
	}
	return slices.SortedFunc(maps.Keys(known), history.compare)
}

// Histories returns the histories of a season, in order.
func Histories(s Season) ([][]int, api.Errno) {
	if e := CheckSeason(s); e != api.OK {
		return nil, e
	}
	return lists.Transform(s.histories(), history.list), api.OK
}

// CheckPolicy returns the first error of a policy for a season, or OK.
func CheckPolicy(s Season, p Policy) api.Errno {
	if e := CheckSeason(s); e != api.OK {
		return e
	}
	return s.checkPolicy(p)
}

// checkPolicy returns the first error of a policy itself, or OK.
func (s Season) checkPolicy(p Policy) api.Errno {
	histories := s.histories()
	if len(p.Rules) != len(histories) {
		return api.ErrShape
	}
	for i, h := range histories {
		if !slices.Equal(p.Rules[i].Classes, h.list()) {
			return api.ErrOrder
		}
	}
	return api.OK
}

// policy returns the policy that closes the barrier behind the histories for which closes holds.
func (s Season) policy(closes func(h history) bool) Policy {
	return Policy{Rules: lists.Transform(s.histories(), func(h history) Rule {
		return Rule{Classes: h.list(), Close: closes(h)}
	})}
}

// rules returns, for each history, whether a policy closes the barrier behind it.
func (s Season) rules(p Policy) map[history]bool {
	out := map[history]bool{}
	for i, h := range s.histories() {
		out[h] = p.Rules[i].Close
	}
	return out
}

// clone returns a policy that shares no memory with the given one.
func (p Policy) clone() Policy {
	return Policy{Rules: lists.Transform(p.Rules, func(r Rule) Rule {
		return Rule{Classes: slices.Clone(r.Classes), Close: r.Close}
	})}
}

// Always returns the policy that does the same after each history.
func Always(s Season, closed bool) (Policy, api.Errno) {
	if e := CheckSeason(s); e != api.OK {
		return Policy{}, e
	}
	return s.policy(func(history) bool { return closed }), api.OK
}

// Flip returns a policy with one rule turned.
func Flip(s Season, p Policy, rule int) (Policy, api.Errno) {
	if e := checks.First(CheckPolicy(s, p), checks.Index(rule, len(p.Rules))); e != api.OK {
		return Policy{}, e
	}
	out := p.clone()
	out.Rules[rule].Close = !out.Rules[rule].Close
	return out, api.OK
}
