package safety

import (
	"slices"

	"tideway/api"
	"tideway/checks"
	"tideway/lists"
)

// roster is permits besides which others may be issued, and the seasons.
type roster struct {
	permits []Permit
	seasons []Season
}

// limit returns how many gates may be out of service at a tick.
func (r roster) limit(tick int) int {
	for _, s := range r.seasons {
		if has(s.Span, tick) {
			return s.Gates
		}
	}
	return 0
}

// stretches returns all ticks as spans, inside which no permit and no season begins or ends.
func (r roster) stretches() []api.Span {
	cuts := []int{0, api.MaxTime}
	for _, p := range r.permits {
		cuts = append(cuts, p.Span.From, p.Span.To)
	}
	for _, s := range r.seasons {
		cuts = append(cuts, s.Span.From, s.Span.To)
	}
	slices.Sort(cuts)
	cuts = slices.Compact(cuts)
	var out []api.Span
	for i := range len(cuts) - 1 {
		out = append(out, api.Span{From: cuts[i], To: cuts[i+1]})
	}
	return out
}

// full returns the spans at whose ticks there would be too many gates out of service if a gate was, too.
func (r roster) full(gate string) []api.Span {
	return lists.Chosen(r.stretches(), func(s api.Span) bool {
		gates := append(gatesAt(r.permits, s.From), gate)
		return len(lists.Distinct(gates)) > r.limit(s.From)
	})
}

// refusal returns the error with which a permit is not issued, or OK; full is the spans at whose ticks its gate may not be out of service.
func (r roster) refusal(p Permit, full []api.Span) api.Errno {
	return checks.First(
		checks.Each(r.permits, func(other Permit) api.Errno { return exclusion(other, p).refusal }),
		checks.Each(full, func(s api.Span) api.Errno { return checks.Unless(!meet(s, p.Span), api.ErrOver) }),
	)
}

// later returns a permit for a span that begins some ticks later.
func (p Permit) later(ticks int) Permit {
	p.Span.From += ticks
	p.Span.To += ticks
	return p
}

// earliest returns the least tick from which on a permit may be issued, and whether there is one.
func (r roster) earliest(p Permit) (int, bool) {
	full := r.full(p.Gate)
	tick, found := 0, false
search:
	for wait := range MaxWait + 1 {
		moved := p.later(wait)
		switch {
		case moved.Span.To > api.MaxTime:
			break search
		case r.refusal(moved, full) == api.OK:
			tick, found = moved.Span.From, true
			break search
		}
	}
	return tick, found
}

// checkIssue returns the first error of permits, seasons, and a permit for which there has to be room, or OK.
func checkIssue(l []Permit, seasons []Season, p Permit) api.Errno {
	return checks.First(
		CheckPermits(l),
		CheckSeasons(seasons),
		CheckPermit(p),
		checks.Unless(len(l) < MaxPermits, api.ErrMany),
	)
}

// Issue returns the error with which a permit is not issued besides others, or OK.
func Issue(l []Permit, seasons []Season, p Permit) api.Errno {
	if e := checkIssue(l, seasons, p); e != api.OK {
		return e
	}
	r := roster{permits: l, seasons: seasons}
	return r.refusal(p, r.full(p.Gate))
}

// Valid returns the error of permits that may not all be issued, or OK.
func Valid(l []Permit, seasons []Season) api.Errno {
	if e := checks.First(CheckPermits(l), CheckSeasons(seasons)); e != api.OK {
		return e
	}
	for i, p := range l {
		if e := Issue(l[:i], seasons, p); e != api.OK {
			return e
		}
	}
	return api.OK
}

// Earliest returns the earliest tick from which on a permit may be issued.
func Earliest(l []Permit, seasons []Season, p Permit) (int, api.Errno) {
	if e := checkIssue(l, seasons, p); e != api.OK {
		return 0, e
	}
	tick, found := roster{permits: l, seasons: seasons}.earliest(p)
	return tick, checks.Unless(found, api.ErrNone)
}
