package gauge_test

import (
	"fmt"
	"math/rand"
	"slices"
	"testing"

	"tideway/api"
	"tideway/gauge"
)

// P1.6, and P2 of DOC.md. Everything here is drawn from generators with fixed seeds.

const (
	rounds   = 300
	lastTick = 24
)

// ticksOf returns which ticks are in a list of spans.
func ticksOf(l []api.Span) [lastTick]bool {
	var out [lastTick]bool
	for _, s := range l {
		for i := s.From; i < s.To; i++ {
			out[i] = true
		}
	}
	return out
}

// spansOf returns the canonical list of ticks.
func spansOf(in [lastTick]bool) []api.Span {
	var out []api.Span
	for i := range in {
		if !in[i] {
			continue
		}
		if i > 0 && in[i-1] {
			out[len(out)-1].To++
		} else {
			out = append(out, api.Span{From: i, To: i + 1})
		}
	}
	return out
}

func randomSpans(r *rand.Rand) []api.Span {
	var in [lastTick]bool
	for i := range in {
		in[i] = r.Intn(2) == 0
	}
	return spansOf(in)
}

// must returns a list of spans that has no error.
func must(t *testing.T, f spansFunction, a, b []api.Span) []api.Span {
	t.Helper()
	l, e := f(a, b)
	want(t, "error", []any{e, gauge.CheckSpans(l)}, []any{api.OK, api.OK})
	return l
}

func TestSpansAreSets(t *testing.T) {
	r := rand.New(rand.NewSource(1))
	for range rounds {
		a, b, c := randomSpans(r), randomSpans(r), randomSpans(r)
		inA, inB := ticksOf(a), ticksOf(b)
		var either, both, alone [lastTick]bool
		for i := range inA {
			either[i], both[i], alone[i] = inA[i] || inB[i], inA[i] && inB[i], inA[i] && !inB[i]
		}
		want(t, "Join", must(t, gauge.Join, a, b), spansOf(either))
		want(t, "Meet", must(t, gauge.Meet, a, b), spansOf(both))
		want(t, "Minus", must(t, gauge.Minus, a, b), spansOf(alone))

		want(t, "Join either way", must(t, gauge.Join, a, b), must(t, gauge.Join, b, a))
		want(t, "Meet either way", must(t, gauge.Meet, a, b), must(t, gauge.Meet, b, a))
		want(t, "Meet of a Join", must(t, gauge.Meet, a, must(t, gauge.Join, b, c)), must(t, gauge.Join, must(t, gauge.Meet, a, b), must(t, gauge.Meet, a, c)))
		want(t, "Minus of a Join", must(t, gauge.Minus, a, must(t, gauge.Join, b, c)), must(t, gauge.Meet, must(t, gauge.Minus, a, b), must(t, gauge.Minus, a, c)))
		want(t, "Join of both parts", must(t, gauge.Join, must(t, gauge.Minus, a, b), must(t, gauge.Meet, a, b)), a)
		want(t, "Meet of both parts", must(t, gauge.Meet, must(t, gauge.Minus, a, b), b), spans())
	}
}

func randomRules(r *rand.Rand) []gauge.Rule {
	var out []gauge.Rule
	for range r.Intn(gauge.MaxRules + 1) {
		switch r.Intn(3) {
		case 0:
			low := r.Intn(3) - 6
			out = append(out, gauge.Rule{Kind: "range", A: low, B: low + r.Intn(12)})
		case 1:
			out = append(out, gauge.Rule{Kind: "jump", A: r.Intn(10)})
		default:
			out = append(out, gauge.Rule{Kind: "stuck", A: 1 + r.Intn(3)})
		}
	}
	return out
}

// removes reports whether a rule removes the level at an index, word for word as the chapter defines it.
func removes(x gauge.Rule, levels []int, recorded, removed []bool, i int) bool {
	if !recorded[i] {
		return false
	}
	switch x.Kind {
	case "range":
		return levels[i] < x.A || levels[i] > x.B
	case "jump":
		return i > 0 && recorded[i-1] && !removed[i-1] && max(levels[i]-levels[i-1], levels[i-1]-levels[i]) > x.A
	}
	for j := i - x.A; j <= i; j++ {
		if j < 0 || !recorded[j] || levels[j] != levels[i] {
			return false
		}
	}
	return true
}

// reasonsOf returns the reasons by their definition.
func reasonsOf(r gauge.Record, l []gauge.Rule) []int {
	levels, recorded, out := make([]int, len(r.Levels)), make([]bool, len(r.Levels)), make([]int, len(r.Levels))
	for i, x := range r.Levels {
		levels[i], recorded[i] = int(16*x), !isGap(r, i)
	}
	for n, x := range l {
		removed := make([]bool, len(levels))
		for i := range levels {
			removed[i] = removes(x, levels, recorded, removed, i)
		}
		for i, is := range removed {
			if is {
				recorded[i], out[i] = false, n+1
			}
		}
	}
	return out
}

func TestCleaningIsExact(t *testing.T) {
	r := rand.New(rand.NewSource(2))
	for range rounds {
		record, rules := randomRecord(r, "a", r.Intn(100), r.Intn(40), 6), randomRules(r)
		reasons, e := gauge.Reasons(record, rules)
		want(t, "Reasons", []any{reasons, e}, []any{reasonsOf(record, rules), api.OK})
		cleaned, e := gauge.Clean(record, rules)
		want(t, "Clean", []any{e, gauge.CheckRecord(cleaned)}, []any{api.OK, api.OK})
		again, _ := gauge.Clean(cleaned, rules)
		want(t, "Clean of a cleaned record", again, cleaned)
		none, _ := gauge.Reasons(cleaned, rules)
		want(t, "Reasons of a cleaned record", none, make([]int, len(record.Levels)))
		for i, reason := range reasons {
			gone := isGap(record, i) || reason > 0
			want(t, "a gap", isGap(cleaned, i), gone)
			if gone {
				want(t, "a level in a gap", cleaned.Levels[i], 0)
			} else {
				want(t, "a level that is left", cleaned.Levels[i], record.Levels[i])
			}
		}
	}
}

func TestFillsChangeNoRecordedLevel(t *testing.T) {
	r := rand.New(rand.NewSource(3))
	for range rounds {
		record, n := randomRecord(r, "a", 0, r.Intn(40), 6), r.Intn(5)
		filled, l, e := gauge.Fill(record, n)
		want(t, "Fill", []any{e, gauge.CheckRecord(filled), gauge.CheckSpans(l)}, []any{api.OK, api.OK, api.OK})
		want(t, "what was and is a gap", must(t, gauge.Join, filled.Gaps, l), record.Gaps)
		want(t, "what was filled and is a gap", must(t, gauge.Meet, filled.Gaps, l), spans())
		for i, x := range record.Levels {
			if !isGap(record, i) {
				want(t, "a recorded level", filled.Levels[i], x)
			} else if !isGap(filled, i) {
				want(t, "a filled level", filled.Levels[i], filled.Levels[i-1])
			}
		}
		for _, g := range record.Gaps {
			want(t, "a gap that is filled", slices.Contains(l, g), g.From > 0 && g.To-g.From <= n)
		}
	}
}

func TestVotesDoNotDependOnTheOrder(t *testing.T) {
	r := rand.New(rand.NewSource(4))
	for range rounds {
		n, tolerance := r.Intn(30), r.Intn(6)
		l := [3]gauge.Record{randomRecord(r, "a", 5, n, 4), randomRecord(r, "b", 5, n, 4), randomRecord(r, "c", 5, n, 4)}
		v, far, e := gauge.Vote(l, tolerance)
		want(t, "Vote", []any{e, gauge.CheckRecord(v)}, []any{api.OK, api.OK})
		for _, p := range [][3]int{{0, 2, 1}, {1, 0, 2}, {1, 2, 0}, {2, 0, 1}, {2, 1, 0}} {
			other, others, _ := gauge.Vote([3]gauge.Record{l[p[0]], l[p[1]], l[p[2]]}, tolerance)
			want(t, "levels and gaps", []any{other.Levels, other.Gaps}, []any{v.Levels, v.Gaps})
			want(t, "the name of the first one", other.Name, l[p[0]].Name)
			want(t, "deviations", others, [3]int{far[p[0]], far[p[1]], far[p[2]]})
		}
		for i, x := range v.Levels {
			var there []float32
			for _, g := range l {
				if !isGap(g, i) {
					there = append(there, g.Levels[i])
				}
			}
			if isGap(v, i) {
				apart := len(there) < 2 || len(there) == 2 && 16*max(there[0]-there[1], there[1]-there[0]) > float32(tolerance)
				want(t, "a gap for a reason", apart, true)
			} else {
				want(t, "a vote between the gauges", slices.Min(there) <= x && x <= slices.Max(there), true)
			}
		}
		same, none, _ := gauge.Vote([3]gauge.Record{l[0], l[0], l[0]}, tolerance)
		want(t, "the vote of equal gauges", []any{same, none}, []any{l[0], [3]int{}})
	}
}

func TestWatersAreThoseOfTheDefinition(t *testing.T) {
	r := rand.New(rand.NewSource(5))
	for range rounds {
		record, width := randomRecord(r, "a", 0, r.Intn(30), 3), 1+r.Intn(6)
		var highs, lows []int
		for i, x := range record.Levels {
			high, low := !isGap(record, i), !isGap(record, i)
			for j, y := range record.Levels {
				if isGap(record, j) || j < i-width || j > i+width {
					continue
				}
				high = high && (j >= i || x > y) && (j <= i || x >= y)
				low = low && (j >= i || x < y) && (j <= i || x <= y)
			}
			if high {
				highs = append(highs, i)
			}
			if low {
				lows = append(lows, i)
			}
		}
		gotHighs, e := gauge.Highs(record, width)
		want(t, "Highs", []any{gotHighs, e}, []any{highs, api.OK})
		gotLows, e := gauge.Lows(record, width)
		want(t, "Lows", []any{gotLows, e}, []any{lows, api.OK})
	}
}

func TestStatisticsAddUp(t *testing.T) {
	r := rand.New(rand.NewSource(6))
	for range rounds {
		n := 1 + r.Intn(20)
		a, b := randomRecord(r, "a", 9, n, 50), randomRecord(r, "a", 9+n, 1+r.Intn(20), 50)
		both, e := gauge.Append(a, b)
		want(t, "Append", []any{e, gauge.CheckRecord(both)}, []any{api.OK, api.OK})
		for i := range both.Levels {
			if i < n {
				want(t, "the first record", []any{both.Levels[i], isGap(both, i)}, []any{a.Levels[i], isGap(a, i)})
			} else {
				want(t, "the second record", []any{both.Levels[i], isGap(both, i)}, []any{b.Levels[i-n], isGap(b, i-n)})
			}
		}
		x, ofA := gauge.Summary(a)
		y, ofB := gauge.Summary(b)
		if ofA != api.OK || ofB != api.OK {
			continue
		}
		z, _ := gauge.Summary(both)
		want(t, "Summary", z, gauge.Statistics{Count: x.Count + y.Count, Sum: x.Sum + y.Sum, Least: min(x.Least, y.Least), Most: max(x.Most, y.Most)})
	}
}

func TestRecordsComeBack(t *testing.T) {
	r := rand.New(rand.NewSource(7))
	for range rounds {
		record := randomRecord(r, fmt.Sprintf("a_%d", r.Intn(100)), r.Intn(100001), r.Intn(40), 1024)
		text, _ := gauge.Print(record)
		parsed, i, e := gauge.Parse(text)
		want(t, "Parse", []any{parsed, i, e}, []any{record, 0, api.OK})
		stream, _ := gauge.Encode(record)
		decoded, e := gauge.Decode(stream)
		want(t, "Decode", []any{decoded, e}, []any{record, api.OK})
		want(t, "bytes", len(stream), 4+1+len(record.Name)+12+8*len(record.Gaps)+4*len(record.Levels))
	}
}
