package gauge

import (
	"iter"
	"slices"

	"tideway/api"
	"tideway/checks"
	"tideway/lists"
)

// CheckRecord returns the first error of a record, or OK.
func CheckRecord(r Record) api.Errno {
	if e := checks.First(
		checks.Unless(IsName(r.Name), api.ErrName),
		checks.Range(r.Start, 0, api.MaxTime),
		checks.Most(len(r.Levels), api.MaxRecord),
	); e != api.OK {
		return e
	}
	if e := checks.First(checks.Each(r.Levels, CheckLevel), CheckSpans(r.Gaps), checkEnds(r)); e != api.OK {
		return e
	}
	return checks.Unless(isSilent(r), api.ErrForm)
}

// checkEnds returns ErrSpan if a gap ends behind the last level.
func checkEnds(r Record) api.Errno {
	whole := api.Span{From: 0, To: len(r.Levels)}
	return checks.Each(r.Gaps, func(g api.Span) api.Errno {
		return checks.Unless(common(g, whole) == g, api.ErrSpan)
	})
}

// isSilent reports whether all levels in gaps are 0.
func isSilent(r Record) bool {
	silent := true
search:
	for _, g := range r.Gaps {
		for _, x := range r.Levels[g.From:g.To] {
			if x != 0 {
				silent = false
				break search
			}
		}
	}
	return silent
}

// known marks the indices of the recorded levels.
func known(r Record) []bool {
	out := make([]bool, len(r.Levels))
	for i := range out {
		out[i] = !covers(r.Gaps, i)
	}
	return out
}

// recorded visits the recorded levels with their indices, ascending.
func recorded(r Record) iter.Seq2[int, float32] {
	return func(yield func(int, float32) bool) {
		for i, is := range known(r) {
			if is && !yield(i, r.Levels[i]) {
				return
			}
		}
	}
}

// assemble returns the record of levels of which the marked ones are recorded; the others become gaps.
func assemble(name string, start int, levels []float32, marked []bool) Record {
	out := Record{Name: name, Start: start, Levels: slices.Clone(levels)}
	missing := make([]bool, len(marked))
	for i, is := range marked {
		if !is {
			missing[i] = true
			out.Levels[i] = 0
		}
	}
	out.Gaps = stretches(missing)
	return out
}

// Fill returns the filled record, and the spans that were filled.
func Fill(r Record, n int) (Record, []api.Span, api.Errno) {
	if e := checks.First(CheckRecord(r), checks.Range(n, 0, api.MaxRecord)); e != api.OK {
		return Record{}, nil, e
	}
	out := Record{Name: r.Name, Start: r.Start, Levels: slices.Clone(r.Levels)}
	var filled []api.Span
	for _, g := range r.Gaps {
		if g.From == 0 || g.To-g.From > n {
			out.Gaps = append(out.Gaps, g)
			continue
		}
		filled = append(filled, g)
		for i := g.From; i < g.To; i++ {
			out.Levels[i] = r.Levels[g.From-1]
		}
	}
	return out, filled, api.OK
}

// Summary returns the statistics of the recorded levels.
func Summary(r Record) (Statistics, api.Errno) {
	if e := CheckRecord(r); e != api.OK {
		return Statistics{}, e
	}
	out := Statistics{Least: api.MaxLevel, Most: -api.MaxLevel}
	for _, level := range recorded(r) {
		out.Count++
		out.Sum += sixteenths(level)
		out.Least = min(out.Least, level)
		out.Most = max(out.Most, level)
	}
	if out.Count == 0 {
		return Statistics{}, api.ErrEmpty
	}
	return out, api.OK
}

// Append returns a record with the one that follows it.
func Append(a, b Record) (Record, api.Errno) {
	if e := checks.First(
		CheckRecord(a),
		CheckRecord(b),
		checks.Unless(a.Name == b.Name, api.ErrConflict),
		checks.Unless(b.Start == a.Start+len(a.Levels), api.ErrOrder),
		checks.Most(len(a.Levels)+len(b.Levels), api.MaxRecord),
	); e != api.OK {
		return Record{}, e
	}
	out := Record{Name: a.Name, Start: a.Start, Levels: slices.Concat(a.Levels, b.Levels), Gaps: slices.Clone(a.Gaps)}
	moved := lists.Transform(b.Gaps, func(g api.Span) api.Span {
		return api.Span{From: g.From + len(a.Levels), To: g.To + len(a.Levels)}
	})
	for _, g := range moved {
		out.Gaps = extend(out.Gaps, g)
	}
	return out, api.OK
}
