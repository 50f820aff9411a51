package gauge_test

import (
	"math"
	"strings"
	"testing"

	"tideway/api"
	"tideway/gauge"
)

// P1.3

func TestCheckRecord(t *testing.T) {
	for e, r := range badRecords() {
		want(t, "CheckRecord", gauge.CheckRecord(r), e)
	}
	nan, half := float32(math.NaN()), float32(0.03125)
	minusZero := float32(math.Copysign(0, -1))
	for _, row := range []struct {
		r gauge.Record
		e api.Errno
	}{
		{hook(), api.OK},
		{gauge.Record{Name: "a"}, api.OK},
		{gauge.Record{Name: "a", Start: 100000, Levels: make([]float32, 4096)}, api.OK},
		{gauge.Record{Name: "a", Levels: make([]float32, 4096), Gaps: each(2048, 0)}, api.OK},
		{gauge.Record{Name: "a", Levels: []float32{minusZero, -64}, Gaps: spans(0, 1)}, api.OK},
		{gauge.Record{}, api.ErrName},
		{gauge.Record{Name: "a", Start: 100001}, api.ErrRange},
		{gauge.Record{Name: "a", Start: math.MinInt}, api.ErrRange},
		{gauge.Record{Name: "a", Levels: make([]float32, 4097), Gaps: spans(1, 1)}, api.ErrMany},
		{gauge.Record{Name: "a", Levels: []float32{0, nan, half}}, api.ErrForm},
		{gauge.Record{Name: "a", Levels: []float32{0, half, nan}, Gaps: make([]api.Span, 2049)}, api.ErrRange},
		{gauge.Record{Name: "a", Levels: []float32{1}, Gaps: make([]api.Span, 2049)}, api.ErrMany},
		{gauge.Record{Name: "a", Levels: []float32{1}, Gaps: spans(0, 3, 2, 4)}, api.ErrOrder},
		{gauge.Record{Name: "a", Levels: []float32{1, 1}, Gaps: spans(0, 1, 1, 2)}, api.ErrOrder},
		{gauge.Record{Name: "a", Levels: []float32{1, 0}, Gaps: spans(1, 1)}, api.ErrSpan},
		{gauge.Record{Name: "a", Levels: []float32{1}, Gaps: spans(-1, 1)}, api.ErrSpan},
		{gauge.Record{Name: "a", Levels: []float32{1, 0}, Gaps: spans(0, 1, 2, 3)}, api.ErrSpan},
		{gauge.Record{Name: "a", Gaps: spans(0, 1)}, api.ErrSpan},
		{gauge.Record{Name: "a", Levels: []float32{0, 0, 2}, Gaps: spans(0, 1, 2, 3)}, api.ErrForm},
	} {
		want(t, "CheckRecord", gauge.CheckRecord(row.r), row.e)
	}
}

func TestCheckRules(t *testing.T) {
	bad := gauge.Rule{Kind: "level"}
	for _, row := range []struct {
		l []gauge.Rule
		e api.Errno
	}{
		{nil, api.OK},
		{[]gauge.Rule{{"range", -1024, 1024}, {"range", -1024, -1024}, {"range", 1024, 1024}, {"jump", 0, 0}, {"jump", 2048, 0}, {"stuck", 1, 0}, {"stuck", 4096, 0}, {"range", 0, 0}}, api.OK},
		{make([]gauge.Rule, 9), api.ErrMany},
		{[]gauge.Rule{{}}, api.ErrKind}, {[]gauge.Rule{{"Range", 0, 0}}, api.ErrKind}, {[]gauge.Rule{{"level", -9999, 0}}, api.ErrKind},
		{[]gauge.Rule{{"range", -1025, 0}}, api.ErrRange}, {[]gauge.Rule{{"range", 1025, 1025}}, api.ErrRange}, {[]gauge.Rule{{"range", 1, 0}}, api.ErrRange}, {[]gauge.Rule{{"range", 0, 1025}}, api.ErrRange},
		{[]gauge.Rule{{"jump", -1, 0}}, api.ErrRange}, {[]gauge.Rule{{"jump", 2049, 0}}, api.ErrRange}, {[]gauge.Rule{{"jump", 0, 1}}, api.ErrRange}, {[]gauge.Rule{{"jump", 0, -1}}, api.ErrRange},
		{[]gauge.Rule{{"stuck", 0, 0}}, api.ErrRange}, {[]gauge.Rule{{"stuck", 4097, 0}}, api.ErrRange}, {[]gauge.Rule{{"stuck", 1, 1}}, api.ErrRange}, {[]gauge.Rule{{"stuck", math.MinInt, 0}}, api.ErrRange},
		{[]gauge.Rule{{"stuck", 0, 0}, bad}, api.ErrRange}, {[]gauge.Rule{bad, {"stuck", 0, 0}}, api.ErrKind},
	} {
		want(t, "CheckRules", gauge.CheckRules(row.l), row.e)
	}
}

func TestReasonsAndClean(t *testing.T) {
	rule := func(kind string, a, b int) gauge.Rule { return gauge.Rule{Kind: kind, A: a, B: b} }
	for _, row := range []struct {
		words   string
		l       []gauge.Rule
		reasons []int
		cleaned string
	}{
		{"16 16 16 80 24 - 32", []gauge.Rule{rule("jump", 16, 0), rule("stuck", 2, 0)}, []int{0, 0, 2, 1, 0, 0, 0}, "16 16 - - 24 - 32"}, // example 2
		{"16 16 16 80 24 - 32", []gauge.Rule{rule("range", 0, 48)}, []int{0, 0, 0, 1, 0, 0, 0}, "16 16 16 - 24 - 32"},                    // example 2
		{"16 - 3", nil, []int{0, 0, 0}, "16 - 3"},
		{"", []gauge.Rule{rule("stuck", 1, 0)}, []int{}, ""},
		{"-5 -4 0 4 5 -", []gauge.Rule{rule("range", -4, 4)}, []int{1, 0, 0, 0, 1, 0}, "- -4 0 4 - -"},
		{"10 -", []gauge.Rule{rule("range", 3, 20)}, []int{0, 0}, "10 -"},                                      // a gap is 0, and not recorded
		{"0 9 18 9 30", []gauge.Rule{rule("jump", 8, 0)}, []int{0, 1, 0, 1, 0}, "0 - 18 - 30"},                 // behind one that is removed none is compared
		{"0 8 16 7", []gauge.Rule{rule("jump", 8, 0)}, []int{0, 0, 0, 1}, "0 8 16 -"},                          // by 8 is not by more than 8
		{"0 - 100", []gauge.Rule{rule("jump", 0, 0)}, []int{0, 0, 0}, "0 - 100"},                               // a gap is between
		{"0 100 100", []gauge.Rule{rule("range", 0, 50), rule("jump", 0, 0)}, []int{0, 1, 1}, "0 - -"},         // rules look at what is left
		{"0 100 3", []gauge.Rule{rule("range", 0, 50), rule("jump", 0, 0)}, []int{0, 1, 0}, "0 - 3"},           // and not behind what is removed
		{"1 1 1 1 2 2 2", []gauge.Rule{rule("stuck", 1, 0)}, []int{0, 1, 1, 1, 0, 1, 1}, "1 - - - 2 - -"},      // as the rule finds them
		{"1 1 - 1 1 1 1", []gauge.Rule{rule("stuck", 2, 0)}, []int{0, 0, 0, 0, 0, 1, 1}, "1 1 - 1 1 - -"},      // all of them recorded
		{"0 0 0", []gauge.Rule{rule("stuck", 2, 0), rule("stuck", 1, 0)}, []int{0, 2, 1}, "0 - -"},             // the number of the first rule that removes
		{"0 0", []gauge.Rule{rule("stuck", 2, 0)}, []int{0, 0}, "0 0"},                                         // no level stands before the first one
		{"5 - 1 1", []gauge.Rule{rule("stuck", 1, 0), rule("range", 0, 1)}, []int{2, 0, 0, 1}, "- - 1 -"},      // the order of rules
		{"-1024 1024", []gauge.Rule{rule("jump", 2047, 0)}, []int{0, 1}, "-1024 -"},                            // the greatest step
		{"-1024 1024", []gauge.Rule{rule("jump", 2048, 0), rule("stuck", 4096, 0)}, []int{0, 0}, "-1024 1024"}, // nothing is more
		{"4 4 4", []gauge.Rule{rule("range", 5, 5), rule("stuck", 1, 0)}, []int{1, 1, 1}, "- - -"},             // all removed
		{"1 50 50 1", []gauge.Rule{rule("jump", 10, 0), rule("jump", 10, 0)}, []int{0, 1, 0, 1}, "1 - 50 -"},   // a second rule alike removes nothing
	} {
		r := levels(t, row.words)
		reasons, e := gauge.Reasons(r, row.l)
		want(t, "Reasons of "+row.words, []any{reasons, e}, []any{row.reasons, api.OK})
		cleaned, e := gauge.Clean(r, row.l)
		want(t, "Clean of "+row.words, []any{words(t, cleaned), e}, []any{row.cleaned, api.OK})
	}
}

func TestCleanKeepsNameAndStart(t *testing.T) {
	r, e := gauge.Clean(hook(), []gauge.Rule{{"jump", 16, 0}, {"stuck", 2, 0}})
	want(t, "Clean", []any{r, e}, []any{gauge.Record{Name: "hook", Start: 10, Levels: []float32{1, 1, 0, 0, 1.5, 0, 2}, Gaps: spans(2, 4, 5, 6)}, api.OK})
}

func TestCleaningErrors(t *testing.T) {
	badRules := []gauge.Rule{{}}
	for wanted, r := range badRecords() {
		reasons, e := gauge.Reasons(r, badRules)
		want(t, "Reasons", []any{reasons, e}, []any{[]int{}, wanted})
		cleaned, e := gauge.Clean(r, badRules)
		want(t, "Clean", []any{cleaned, e}, []any{gauge.Record{}, wanted})
		filled, l, e := gauge.Fill(r, -1)
		want(t, "Fill", []any{filled, l, e}, []any{gauge.Record{}, spans(), wanted})
	}
	reasons, e := gauge.Reasons(hook(), badRules)
	want(t, "Reasons", []any{reasons, e}, []any{[]int{}, api.ErrKind})
	cleaned, e := gauge.Clean(hook(), make([]gauge.Rule, 9))
	want(t, "Clean", []any{cleaned, e}, []any{gauge.Record{}, api.ErrMany})
}

func TestFill(t *testing.T) {
	for _, row := range []struct {
		words  string
		n      int
		filled string
		spans  []api.Span
	}{
		{"16 16 16 80 24 - 32", 1, "16 16 16 80 24 24 32", spans(5, 6)}, // example 3
		{"16 16 16 80 24 - 32", 0, "16 16 16 80 24 - 32", nil},          // example 3
		{"- 5 - - 7 -", 1, "- 5 - - 7 7", spans(5, 6)},
		{"- 5 - - 7 -", 2, "- 5 5 5 7 7", spans(2, 4, 5, 6)},
		{"- - -", 4096, "- - -", nil},
		{"-3 - - -", 3, "-3 -3 -3 -3", spans(1, 4)},
		{"-3 - - -", 2, "-3 - - -", nil},
		{"", 7, "", nil},
		{"1 2", 7, "1 2", nil},
	} {
		r := levels(t, row.words)
		r.Name, r.Start = "b", 5
		filled, l, e := gauge.Fill(r, row.n)
		want(t, "Fill of "+row.words, []any{words(t, filled), l, e}, []any{row.filled, row.spans, api.OK})
		want(t, "name and start", []any{filled.Name, filled.Start}, []any{"b", 5})
	}
	for _, n := range []int{-1, 4097, math.MinInt, math.MaxInt} {
		r, l, e := gauge.Fill(hook(), n)
		want(t, "Fill", []any{r, l, e}, []any{gauge.Record{}, spans(), api.ErrRange})
	}
}

func TestFillOfManyGaps(t *testing.T) {
	r := levels(t, strings.Repeat("3 - ", 2048))
	filled, l, e := gauge.Fill(r, 1)
	want(t, "Fill", []any{len(filled.Gaps), len(l), e}, []any{0, 2048, api.OK})
}
