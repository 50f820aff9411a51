package gauge_test

import (
	"fmt"
	"math/rand"
	"strings"
	"testing"

	"tideway/api"
	"tideway/gauge"
)

// want compares what results print as: so nil and empty lists are equal.
func want(t *testing.T, what string, got, wanted any) {
	t.Helper()
	if g, w := fmt.Sprintf("%+v", got), fmt.Sprintf("%+v", wanted); g != w {
		t.Errorf("%s: got %s, want %s", what, g, w)
	}
}

// spans returns the spans with these ends.
func spans(ends ...int) []api.Span {
	var out []api.Span
	for i := 0; i+1 < len(ends); i += 2 {
		out = append(out, api.Span{From: ends[i], To: ends[i+1]})
	}
	return out
}

// each returns n spans of one tick each, with a tick between two of them.
func each(n, from int) []api.Span {
	var out []api.Span
	for i := range n {
		out = append(out, api.Span{From: from + 2*i, To: from + 2*i + 1})
	}
	return out
}

// hook is the record R of the chapter's examples.
func hook() gauge.Record {
	return gauge.Record{Name: "hook", Start: 10, Levels: []float32{1, 1, 1, 5, 1.5, 0, 2}, Gaps: spans(5, 6)}
}

// levels returns the record with these words: levels in sixteenths, or `-` in a gap.
func levels(t *testing.T, words string) gauge.Record {
	t.Helper()
	text := "gauge a 0\n"
	for _, word := range strings.Fields(words) {
		text += word + "\n"
	}
	r, _, e := gauge.Parse(text)
	if e != api.OK {
		t.Fatalf("levels %q: error %d", words, e)
	}
	return r
}

// words is the inverse of levels.
func words(t *testing.T, r gauge.Record) string {
	t.Helper()
	text, e := gauge.Print(r)
	if e != api.OK {
		t.Fatalf("words: error %d", e)
	}
	return strings.Join(strings.Split(strings.TrimSuffix(text, "\n"), "\n")[1:], " ")
}

// badRecords returns records by their first errors; all but that with ErrForm have one that comes later, too.
func badRecords() map[api.Errno]gauge.Record {
	return map[api.Errno]gauge.Record{
		api.ErrName:  {Name: "9", Start: -1, Levels: []float32{65}},
		api.ErrRange: {Name: "a", Start: -1, Levels: make([]float32, 4097)},
		api.ErrMany:  {Name: "a", Levels: append(make([]float32, 4096), 65), Gaps: spans(1, 1)},
		api.ErrForm:  {Name: "a", Levels: []float32{1}, Gaps: spans(0, 1)},
		api.ErrSpan:  {Name: "a", Levels: []float32{1}, Gaps: spans(0, 2)},
		api.ErrOrder: {Name: "a", Levels: []float32{1, 1}, Gaps: spans(1, 2, 0, 1)},
	}
}

// randomRecord returns a record with about one gap in every third tick, and few different levels.
func randomRecord(r *rand.Rand, name string, start, n, span int) gauge.Record {
	text := fmt.Sprintf("gauge %s %d\n", name, start)
	for range n {
		if r.Intn(3) == 0 {
			text += "-\n"
		} else {
			text += fmt.Sprintf("%d\n", r.Intn(2*span+1)-span)
		}
	}
	out, _, e := gauge.Parse(text)
	if e != api.OK {
		panic(e)
	}
	return out
}

// isGap reports whether an index lies in a gap of a record.
func isGap(r gauge.Record, i int) bool {
	for _, g := range r.Gaps {
		if g.From <= i && i < g.To {
			return true
		}
	}
	return false
}
