package gauge

import (
	"slices"
	"sort"

	"tideway/api"
	"tideway/checks"
)

// CheckSpan returns the error of a span, or OK.
func CheckSpan(s api.Span) api.Errno {
	return checks.Unless(0 <= s.From && s.From < s.To && s.To <= api.MaxTime, api.ErrSpan)
}

// CheckSpans returns the first error of a canonical list of spans, or OK.
func CheckSpans(l []api.Span) api.Errno {
	if len(l) > MaxSpans {
		return api.ErrMany
	}
	end := -1
	for _, s := range l {
		if e := checks.First(CheckSpan(s), checks.Unless(s.From > end, api.ErrOrder)); e != api.OK {
			return e
		}
		end = s.To
	}
	return api.OK
}

// Join returns the ticks of one list or the other one.
func Join(a, b []api.Span) ([]api.Span, api.Errno) {
	return combine(a, b, func(inA, inB bool) bool { return inA || inB })
}

// Meet returns the ticks of both lists.
func Meet(a, b []api.Span) ([]api.Span, api.Errno) {
	return combine(a, b, func(inA, inB bool) bool { return inA && inB })
}

// Minus returns the ticks of the first list alone.
func Minus(a, b []api.Span) ([]api.Span, api.Errno) {
	return combine(a, b, func(inA, inB bool) bool { return inA && !inB })
}

// combine returns the canonical list of the ticks that keep chooses by the lists in which they are.
func combine(a, b []api.Span, keep func(inA, inB bool) bool) ([]api.Span, api.Errno) {
	if e := checks.First(CheckSpans(a), CheckSpans(b)); e != api.OK {
		return nil, e
	}
	var out []api.Span
	cuts := ends(a, b)
	for i := 1; i < len(cuts); i++ {
		// No span begins or ends between two cuts: the first tick there speaks for all.
		part := api.Span{From: cuts[i-1], To: cuts[i]}
		if keep(covers(a, part.From), covers(b, part.From)) {
			out = extend(out, part)
		}
	}
	if len(out) > MaxSpans {
		return nil, api.ErrMany
	}
	return out, api.OK
}

// ends returns where the spans of lists begin and end, ascending, each tick once.
func ends(spans ...[]api.Span) []int {
	var out []int
	for _, l := range spans {
		for _, s := range l {
			out = append(out, s.From, s.To)
		}
	}
	slices.Sort(out)
	return slices.Compact(out)
}

// covers reports whether a tick is in a canonical list.
func covers(l []api.Span, tick int) bool {
	i := sort.Search(len(l), func(i int) bool { return l[i].To > tick })
	return i < len(l) && l[i].From <= tick
}

// extend adds a span behind a canonical list, which belongs to the caller; two that touch become one.
func extend(l []api.Span, s api.Span) []api.Span {
	if last := len(l) - 1; last >= 0 && l[last].To == s.From {
		l[last].To = s.To
		return l
	}
	return append(l, s)
}

// common returns the ticks that are in both spans; those of spans that do not overlap are none.
func common(a, b api.Span) api.Span {
	return api.Span{From: max(a.From, b.From), To: min(a.To, b.To)}
}

// stretches returns the spans, as long as they can be, of the indices that are marked.
func stretches(marked []bool) []api.Span {
	var out []api.Span
	for i, is := range marked {
		if is {
			out = extend(out, api.Span{From: i, To: i + 1})
		}
	}
	return out
}
