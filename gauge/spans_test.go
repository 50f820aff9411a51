package gauge_test

import (
	"math"
	"testing"

	"tideway/api"
	"tideway/gauge"
)

// P1.2

type spansFunction = func(a, b []api.Span) ([]api.Span, api.Errno)

func TestCheckSpan(t *testing.T) {
	for _, row := range []struct {
		from, to int
		e        api.Errno
	}{
		{0, 1, api.OK}, {0, 100000, api.OK}, {99999, 100000, api.OK},
		{-1, 1, api.ErrSpan}, {1, 1, api.ErrSpan}, {2, 1, api.ErrSpan}, {0, 100001, api.ErrSpan}, {100000, 100001, api.ErrSpan}, {math.MinInt, math.MaxInt, api.ErrSpan}, {math.MaxInt, math.MinInt, api.ErrSpan},
	} {
		want(t, "CheckSpan", gauge.CheckSpan(api.Span{From: row.from, To: row.to}), row.e)
	}
}

func TestCheckSpans(t *testing.T) {
	for _, row := range []struct {
		l []api.Span
		e api.Errno
	}{
		{nil, api.OK}, {spans(0, 1), api.OK}, {spans(0, 1, 2, 3), api.OK}, {each(2048, 0), api.OK},
		{spans(0, 1, 1, 2), api.ErrOrder}, {spans(4, 5, 0, 1), api.ErrOrder}, {spans(0, 5, 4, 6), api.ErrOrder}, {spans(0, 5, 0, 5), api.ErrOrder},
		{spans(0, 0), api.ErrSpan}, {spans(0, 5, 4, 4), api.ErrSpan}, {spans(0, 5, 5, 6, 7, 7), api.ErrOrder}, {spans(0, 5, 7, 7, 5, 6), api.ErrSpan},
		{each(2049, 0), api.ErrMany}, {make([]api.Span, 2049), api.ErrMany},
	} {
		want(t, "CheckSpans", gauge.CheckSpans(row.l), row.e)
	}
}

func TestSetsOfSpans(t *testing.T) {
	for _, row := range []struct{ a, b, join, meet, minus []api.Span }{
		{spans(0, 4, 6, 9), spans(2, 7), spans(0, 9), spans(2, 4, 6, 7), spans(0, 2, 7, 9)}, // example 1
		{nil, nil, nil, nil, nil},
		{spans(3, 5), nil, spans(3, 5), nil, spans(3, 5)},
		{nil, spans(3, 5), spans(3, 5), nil, nil},
		{spans(0, 4), spans(4, 5), spans(0, 5), nil, spans(0, 4)},
		{spans(4, 5), spans(0, 4), spans(0, 5), nil, spans(4, 5)},
		{spans(0, 4), spans(5, 6), spans(0, 4, 5, 6), nil, spans(0, 4)},
		{spans(1, 9), spans(1, 9), spans(1, 9), spans(1, 9), nil},
		{spans(1, 9), spans(1, 3), spans(1, 9), spans(1, 3), spans(3, 9)},
		{spans(1, 9), spans(6, 9), spans(1, 9), spans(6, 9), spans(1, 6)},
		{spans(0, 100000), spans(5, 6), spans(0, 100000), spans(5, 6), spans(0, 5, 6, 100000)},
		{spans(0, 2, 4, 6), spans(2, 4, 6, 8), spans(0, 8), nil, spans(0, 2, 4, 6)},
	} {
		for what, f := range map[string]struct {
			of     spansFunction
			wanted []api.Span
		}{"Join": {gauge.Join, row.join}, "Meet": {gauge.Meet, row.meet}, "Minus": {gauge.Minus, row.minus}} {
			got, e := f.of(row.a, row.b)
			want(t, what, []any{got, e}, []any{f.wanted, api.OK})
		}
	}
}

func TestSetsOfSpansErrors(t *testing.T) {
	bad, unordered, many := spans(1, 1), spans(0, 1, 1, 2), each(2049, 0)
	for what, f := range map[string]spansFunction{"Join": gauge.Join, "Meet": gauge.Meet, "Minus": gauge.Minus} {
		for _, row := range []struct {
			a, b []api.Span
			e    api.Errno
		}{{bad, many, api.ErrSpan}, {unordered, bad, api.ErrOrder}, {many, bad, api.ErrMany}, {nil, bad, api.ErrSpan}, {spans(0, 1), unordered, api.ErrOrder}, {nil, many, api.ErrMany}} {
			got, e := f(row.a, row.b)
			want(t, what, []any{got, e}, []any{[]api.Span{}, row.e})
		}
	}
}

func TestSetsOfSpansTooMany(t *testing.T) {
	got, e := gauge.Join(each(1024, 0), each(1024, 10000))
	want(t, "Join of as many as possible", []any{len(got), e}, []any{2048, api.OK})
	got, e = gauge.Join(each(1024, 0), each(1025, 10000))
	want(t, "Join", []any{len(got), e}, []any{0, api.ErrMany})
	got, e = gauge.Join(each(2048, 0), each(2048, 1))
	want(t, "Join of many that touch", []any{got, e}, []any{spans(0, 4096), api.OK})

	// Spans of 4 ticks with a tick between two of them, and holes of a tick in the middle of each one.
	var wide, holes, bridges []api.Span
	for i := range 1025 {
		wide = append(wide, api.Span{From: 5 * i, To: 5*i + 4})
		holes = append(holes, api.Span{From: 5*i + 1, To: 5*i + 2})
		bridges = append(bridges, api.Span{From: 5*i + 2, To: 5*i + 6})
	}
	got, e = gauge.Minus(wide[:1024], holes[:1024])
	want(t, "Minus of as many as possible", []any{len(got), e}, []any{2048, api.OK})
	got, e = gauge.Minus(wide, holes)
	want(t, "Minus", []any{len(got), e}, []any{0, api.ErrMany})
	got, e = gauge.Meet(wide, bridges[:1024])
	want(t, "Meet of as many as possible", []any{len(got), e}, []any{2048, api.OK})
	got, e = gauge.Meet(wide, bridges)
	want(t, "Meet", []any{len(got), e}, []any{0, api.ErrMany})
}
