package safety

import (
	"cmp"
	"iter"
	"slices"

	"tideway/api"
	"tideway/checks"
	"tideway/lists"
)

// ends is the first tick of a span, and the one behind its last one.
type ends [2]int

// nowhere is the ends of a span without ticks.
var nowhere = ends{0, 0}

// common returns the ends of the ticks that two spans have in common.
func common(a, b api.Span) ends {
	from, to := max(a.From, b.From), min(a.To, b.To)
	if from >= to {
		return nowhere
	}
	return ends{from, to}
}

// meet reports whether two spans have a tick in common.
func meet(a, b api.Span) bool {
	return common(a, b) != nowhere
}

// has reports whether a span has a tick.
func has(s api.Span, tick int) bool {
	return s.From <= tick && tick < s.To
}

// reason is why two permits exclude each other, and the error with which one of them is not issued besides the other one.
type reason struct {
	name    string
	refusal api.Errno
	applies func(a, b Permit) bool
}

// reasons returns the reasons: the first one that applies is given.
func reasons() [4]reason {
	return [4]reason{
		{name: "name", refusal: api.ErrTwice, applies: func(a, b Permit) bool { return a.Name == b.Name }},
		{name: "crew", refusal: api.ErrOverlap, applies: meanwhile(func(a, b Permit) bool { return a.Crew == b.Crew })},
		{name: "lock", refusal: api.ErrLock, applies: meanwhile(Permit.locksAsWell)},
		{name: "gate", refusal: api.ErrLock, applies: meanwhile(func(a, b Permit) bool { return a.locks(b.Gate) || b.locks(a.Gate) })},
	}
}

// meanwhile returns whether a reason applies to permits that have a tick in common.
func meanwhile(applies func(a, b Permit) bool) func(a, b Permit) bool {
	return func(a, b Permit) bool {
		return meet(a.Span, b.Span) && applies(a, b)
	}
}

// exclusion returns the first reason why two permits exclude each other, or none.
func exclusion(a, b Permit) reason {
	for _, r := range reasons() {
		if r.applies(a, b) {
			return r
		}
	}
	return reason{}
}

// locks reports whether a permit locks a thing.
func (p Permit) locks(thing string) bool {
	return slices.Contains(p.Locks, thing)
}

// locksAsWell reports whether a permit locks a thing that another one locks.
func (p Permit) locksAsWell(other Permit) bool {
	return slices.ContainsFunc(other.Locks, p.locks)
}

// compare orders clashes by their indices.
func (c Clash) compare(other Clash) int {
	return cmp.Or(cmp.Compare(c.First, other.First), cmp.Compare(c.Second, other.Second))
}

// at visits the permits whose spans have a tick.
func at(l []Permit, tick int) iter.Seq[Permit] {
	return func(yield func(Permit) bool) {
		for _, p := range l {
			if has(p.Span, tick) && !yield(p) {
				return
			}
		}
	}
}

// namesAt returns names of the permits at a tick, each one once, ascending.
func namesAt(l []Permit, tick int, of func(p Permit) []string) []string {
	var out []string
	for p := range at(l, tick) {
		out = append(out, of(p)...)
	}
	slices.Sort(out)
	return slices.Compact(out)
}

// gatesAt returns the gates that are out of service at a tick.
func gatesAt(l []Permit, tick int) []string {
	return namesAt(l, tick, func(p Permit) []string { return []string{p.Gate} })
}

// Exclude returns the reason why two permits exclude each other, or the empty string.
func Exclude(a, b Permit) (string, api.Errno) {
	if e := checks.First(CheckPermit(a), CheckPermit(b)); e != api.OK {
		return "", e
	}
	return exclusion(a, b).name, api.OK
}

// Clashes returns all pairs of permits that exclude each other.
func Clashes(l []Permit) ([]Clash, api.Errno) {
	if e := CheckPermits(l); e != api.OK {
		return nil, e
	}
	var out []Clash
	for second, p := range l {
		for first, before := range l[:second] {
			if name := exclusion(before, p).name; name != "" {
				out = append(out, Clash{First: first, Second: second, Reason: name})
			}
		}
	}
	slices.SortFunc(out, Clash.compare)
	return out, api.OK
}

// Out returns the gates that are out of service at a tick.
func Out(l []Permit, tick int) ([]string, api.Errno) {
	if e := checks.First(CheckPermits(l), checkTick(tick)); e != api.OK {
		return nil, e
	}
	return gatesAt(l, tick), api.OK
}

// Locked returns the things that are locked at a tick.
func Locked(l []Permit, tick int) ([]string, api.Errno) {
	if e := checks.First(CheckPermits(l), checkTick(tick)); e != api.OK {
		return nil, e
	}
	return namesAt(l, tick, func(p Permit) []string { return p.Locks }), api.OK
}

// Busiest returns the first tick with the most gates out of service, and their number.
func Busiest(l []Permit) (int, int, api.Errno) {
	if e := checks.First(CheckPermits(l), checks.Unless(len(l) > 0, api.ErrEmpty)); e != api.OK {
		return 0, 0, e
	}
	// Gates go out of service where a span begins, and nowhere else.
	begins := lists.Transform(l, func(p Permit) int { return p.Span.From })
	slices.Sort(begins)
	busiest, most := 0, 0
	for _, tick := range begins {
		if gates := len(gatesAt(l, tick)); gates > most {
			busiest, most = tick, gates
		}
	}
	return busiest, most, api.OK
}
