package policy

import (
	"iter"
	"slices"

	"tideway/api"
	"tideway/checks"
)

// closings is whether the barrier is closed at each tide. It is open at the tides that a season does not have.
type closings [MaxTides]bool

// allClosings visits all closings of so many tides. Of two of them the one that is open where they first differ comes first.
func allClosings(tides int) iter.Seq[closings] {
	return func(yield func(closings) bool) {
		for number := range 1 << tides {
			var c closings
			for tide := range tides {
				c[tides-1-tide] = number>>tide&1 == 1
			}
			if !yield(c) {
				return
			}
		}
	}
}

// count returns the number of closed tides.
func (c closings) count() int {
	out := 0
	for _, closed := range c {
		if closed {
			out++
		}
	}
	return out
}

// closings returns the closings of a member by rules.
func (m Member) closings(rules map[history]bool) closings {
	var out closings
	for tide := range len(m.Classes) {
		out[tide] = rules[m.history(tide)]
	}
	return out
}

// peaks is the peak of each tide. It is 0, which no limit is below, at the tides that a season does not have.
type peaks [MaxTides]int

// peaks returns the peaks of a member by closings.
func (m Member) peaks(c closings) peaks {
	var out peaks
	level := 0
	for tide, outside := range m.Outside {
		out[tide] = outside
		if c[tide] {
			out[tide] = level + m.Inflow[tide]
			level = out[tide]
		} else {
			level = 0
		}
	}
	return out
}

// before returns the peaks of the tides before a tide alone.
func (x peaks) before(tide int) peaks {
	clear(x[tide:])
	return x
}

// lowered returns the peaks with the limit in place of those above it.
func (x peaks) lowered(limit int) peaks {
	for tide := range x {
		x[tide] = min(x[tide], limit)
	}
	return x
}

func (x peaks) areWithin(limit int) bool {
	return x == x.lowered(limit)
}

// isKept reports whether a member is kept by closings.
func (s Season) isKept(member int, c closings) bool {
	return s.Members[member].peaks(c).areWithin(s.Limit)
}

// Play returns the course of a member by a policy.
func Play(s Season, p Policy, member int) (Course, api.Errno) {
	if e := checks.First(CheckPolicy(s, p), s.checkNumber(member)); e != api.OK {
		return Course{}, e
	}
	m, tides := s.Members[member], len(s.Ships)
	c := m.closings(s.rules(p))
	x := m.peaks(c)
	return Course{Closed: slices.Clone(c[:tides]), Peaks: slices.Clone(x[:tides])}, api.OK
}

// Follow returns the peaks of a member by closings.
func Follow(s Season, member int, closed []bool) ([]int, api.Errno) {
	shape := checks.Unless(len(closed) == len(s.Ships), api.ErrShape)
	if e := checks.First(CheckSeason(s), s.checkNumber(member), shape); e != api.OK {
		return nil, e
	}
	var c closings
	copy(c[:], closed)
	x := s.Members[member].peaks(c)
	return slices.Clone(x[:len(closed)]), api.OK
}

// alone returns the first closings of a member alone, and whether there are any.
func (s Season) alone(member int) (closings, bool) {
	var out closings
	found := false
	for c := range allClosings(len(s.Ships)) {
		if s.isKept(member, c) && (!found || c.count() < out.count()) {
			out, found = c, true
		}
	}
	return out, found
}

// Alone returns the least number of closings that keep a member, and its first ones.
func Alone(s Season, member int) ([]bool, int, api.Errno) {
	if e := checks.First(CheckSeason(s), s.checkNumber(member)); e != api.OK {
		return nil, 0, e
	}
	c, found := s.alone(member)
	if !found {
		return nil, 0, api.ErrInfeasible
	}
	return slices.Clone(c[:len(s.Ships)]), c.count(), api.OK
}

// doomed returns the tide at which a member is doomed, and whether it is.
func (s Season) doomed(member int) (int, bool) {
search:
	for tide := range len(s.Ships) {
		for c := range allClosings(tide + 1) {
			if s.Members[member].peaks(c).before(tide + 1).areWithin(s.Limit) {
				continue search
			}
		}
		return tide, true
	}
	return 0, false
}

// Doomed returns the tide at which each course of a member has been above the limit.
func Doomed(s Season, member int) (int, api.Errno) {
	if e := checks.First(CheckSeason(s), s.checkNumber(member)); e != api.OK {
		return 0, e
	}
	tide, found := s.doomed(member)
	return tide, checks.Unless(found, api.ErrNone)
}
