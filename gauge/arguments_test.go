package gauge_test

import (
	"fmt"
	"math"
	"math/rand"
	"testing"

	"tideway/api"
	"tideway/gauge"
)

// P1 of DOC.md, and its rules about memory.

// strange returns records with everything that a record may not be.
func strange() []gauge.Record {
	nan, inf := float32(math.NaN()), float32(math.Inf(-1))
	return []gauge.Record{
		{}, hook(), {Name: "a"},
		{Name: "a", Start: math.MinInt}, {Name: "a", Start: math.MaxInt, Levels: []float32{1}},
		{Name: "a", Levels: []float32{nan, inf, math.MaxFloat32}},
		{Name: "a", Levels: []float32{1, 2}, Gaps: spans(math.MinInt, math.MaxInt)}, {Name: "a", Levels: []float32{1, 2}, Gaps: spans(math.MaxInt, math.MinInt)},
		{Name: "a", Levels: []float32{1, 2}, Gaps: spans(1, 3)}, {Name: "a", Levels: []float32{1, 2}, Gaps: spans(-1, 1)}, {Name: "a", Levels: []float32{1, 2}, Gaps: spans(1, 2, 0, 1)},
		{Name: "a", Levels: make([]float32, 5000), Gaps: each(5000, 0)},
	}
}

func TestNoFunctionPanics(t *testing.T) {
	numbers := []int{math.MinInt, -1, 0, 1, 4096, 100000, math.MaxInt}
	calls := 0
	try := func(what string, call func()) {
		defer func() {
			if x := recover(); x != nil {
				t.Errorf("%s: panic %v", what, x)
			}
		}()
		calls++
		call()
	}
	for _, a := range strange() {
		for _, n := range numbers {
			try("Fill", func() { gauge.Fill(a, n) })
			try("Highs", func() { gauge.Highs(a, n) })
			try("Lows", func() { gauge.Lows(a, n) })
			try("Clean", func() { gauge.Clean(a, []gauge.Rule{{"stuck", n, 0}, {"jump", n, 0}, {"range", n, n}}) })
			try("Above", func() { gauge.Above(a, float32(n)) })
			try("Vote", func() { gauge.Vote([3]gauge.Record{a, a, a}, n) })
		}
		for _, b := range strange() {
			try("Append", func() { gauge.Append(a, b) })
			try("Vote", func() { gauge.Vote([3]gauge.Record{a, b, hook()}, 0) })
			try("Join", func() { gauge.Join(a.Gaps, b.Gaps) })
			try("Minus", func() { gauge.Minus(a.Gaps, b.Gaps) })
		}
		try("Summary", func() { gauge.Summary(a) })
		try("Print", func() { gauge.Print(a) })
		try("Encode", func() { gauge.Encode(a) })
	}
	for _, a := range numbers {
		for _, b := range numbers {
			try("Draw", func() { gauge.Draw(a, b) })
			try("CheckRatio", func() { gauge.CheckRatio(api.Ratio{Num: a, Den: b}) })
			try("CheckSpan", func() { gauge.CheckSpan(api.Span{From: a, To: b}) })
		}
	}
	r := rand.New(rand.NewSource(8))
	c, _ := gauge.Encode(hook())
	for range 2000 {
		s := append([]byte{}, c...)
		s[r.Intn(len(s))] = byte(r.Intn(256))
		try("Decode", func() { gauge.Decode(s) })
		text := []byte(hookText)
		text[r.Intn(len(text))] = byte(r.Intn(256))
		try("Parse", func() { gauge.Parse(string(text)) })
	}
	if calls < 4000 {
		t.Errorf("only %d calls", calls)
	}
}

// spoil overwrites all that a result or an argument has in slices.
func spoil(r gauge.Record) {
	for i := range r.Levels {
		r.Levels[i] = 63
	}
	for i := range r.Gaps {
		r.Gaps[i] = api.Span{From: 7, To: 9}
	}
}

func TestResultsShareNoMemory(t *testing.T) {
	rules := []gauge.Rule{{"stuck", 2, 0}}
	for what, f := range map[string]func(r gauge.Record) gauge.Record{
		"Clean":         func(r gauge.Record) gauge.Record { out, _ := gauge.Clean(r, rules); return out },
		"Clean by none": func(r gauge.Record) gauge.Record { out, _ := gauge.Clean(r, nil); return out },
		"Fill":          func(r gauge.Record) gauge.Record { out, _, _ := gauge.Fill(r, 1); return out },
		"Fill by 0":     func(r gauge.Record) gauge.Record { out, _, _ := gauge.Fill(r, 0); return out },
		"Append": func(r gauge.Record) gauge.Record {
			out, _ := gauge.Append(r, gauge.Record{Name: "hook", Start: 17})
			return out
		},
		"Append to none": func(r gauge.Record) gauge.Record {
			out, _ := gauge.Append(gauge.Record{Name: "hook", Start: 10}, r)
			return out
		},
		"Vote": func(r gauge.Record) gauge.Record { out, _, _ := gauge.Vote([3]gauge.Record{r, r, r}, 0); return out },
	} {
		r := hook()
		out := f(r)
		before := fmt.Sprint(out)
		want(t, what+" changes its argument", r, hook())
		spoil(r)
		want(t, what+" keeps its argument", fmt.Sprint(out), before)
		r = hook()
		spoil(f(r))
		want(t, what+" gives its argument out", r, hook())
	}
}

func TestAppendChangesNoGapsBehindItsArgument(t *testing.T) {
	gaps := spans(1, 2, 5, 6)
	a := gauge.Record{Name: "a", Levels: []float32{1, 0}, Gaps: gaps[:1]}
	b := gauge.Record{Name: "a", Start: 2, Levels: []float32{0, 1, 0}, Gaps: spans(0, 1, 2, 3)}
	both, e := gauge.Append(a, b)
	want(t, "Append", []any{both.Gaps, e, gaps}, []any{spans(1, 3, 4, 5), api.OK, spans(1, 2, 5, 6)})
}

func TestFillSharesNoSpans(t *testing.T) {
	r := levels(t, "1 - 1 - - 1 -")
	filled, l, _ := gauge.Fill(r, 1)
	for i := range l {
		l[i] = api.Span{}
	}
	want(t, "Fill", []any{filled.Gaps, r.Gaps}, []any{spans(3, 5), spans(1, 2, 3, 5, 6, 7)})
}

func TestSetsShareNoMemory(t *testing.T) {
	for what, f := range map[string]spansFunction{"Join": gauge.Join, "Meet": gauge.Meet, "Minus": gauge.Minus} {
		for _, b := range [][]api.Span{nil, spans(0, 100), spans(4, 5), spans(9, 10)} {
			a, kept := spans(0, 4, 6, 9), append([]api.Span{}, b...)
			l, _ := f(a, b)
			for i := range l {
				l[i] = api.Span{From: 50, To: 51}
			}
			want(t, what, []any{a, b}, []any{spans(0, 4, 6, 9), kept})
		}
	}
}
