package gauge_test

import (
	"math"
	"strings"
	"testing"

	"tideway/api"
	"tideway/gauge"
)

// P1.4

func TestVote(t *testing.T) {
	for _, row := range []struct {
		gauges     [3]string
		tolerance  int
		vote       string
		deviations [3]int
	}{
		{[3]string{"16 32 48", "16 64 -", "48 48 -"}, 16, "16 48 -", [3]int{0, 0, 1}}, // example 4
		{[3]string{"16 32 48", "16 64 -", "48 48 -"}, 15, "16 48 -", [3]int{1, 1, 1}},
		{[3]string{"", "", ""}, 0, "", [3]int{}},
		{[3]string{"1", "1", "1"}, 0, "1", [3]int{}},
		{[3]string{"3", "-2", "1"}, 0, "1", [3]int{1, 1, 0}},
		{[3]string{"3", "-2", "1"}, 2, "1", [3]int{0, 1, 0}},
		{[3]string{"3", "-2", "1"}, 3, "1", [3]int{}},
		{[3]string{"5 -", "7 -", "- -"}, 2, "7 -", [3]int{}}, // the greater one of two
		{[3]string{"5", "7", "-"}, 1, "-", [3]int{}},         // too far apart; no vote, no deviation
		{[3]string{"-", "-7", "-5"}, 2, "-5", [3]int{}},      // in every place of the three
		{[3]string{"-7", "-", "-5"}, 2, "-5", [3]int{}},      //
		{[3]string{"-", "5", "-"}, 2048, "-", [3]int{}},      // one alone has no vote
		{[3]string{"-1024", "1024", "-"}, 2048, "1024", [3]int{}},
		{[3]string{"-1024", "1024", "1024"}, 2047, "1024", [3]int{1, 0, 0}},
		{[3]string{"1 9 -", "9 1 9", "9 9 9"}, 0, "9 9 9", [3]int{1, 1, 0}},
	} {
		var l [3]gauge.Record
		for i, s := range row.gauges {
			l[i] = levels(t, s)
			l[i].Name, l[i].Start = string(rune('a'+i)), 7
		}
		v, n, e := gauge.Vote(l, row.tolerance)
		want(t, "Vote", []any{words(t, v), n, e}, []any{row.vote, row.deviations, api.OK})
		want(t, "name and start", []any{v.Name, v.Start}, []any{"a", 7})
	}
}

func TestVoteErrors(t *testing.T) {
	good := levels(t, "1 2 3")
	later, shorter := good, levels(t, "1 2")
	later.Start = 1
	for wanted, bad := range badRecords() {
		other := gauge.Record{}
		if wanted == api.ErrName {
			other.Name = "a"
			other.Start = -1
		}
		for _, l := range [][3]gauge.Record{{bad, other, other}, {good, bad, other}, {good, later, bad}} {
			v, n, e := gauge.Vote(l, -1)
			want(t, "Vote", []any{v, n, e}, []any{gauge.Record{}, [3]int{}, wanted})
		}
	}
	for _, row := range []struct {
		l         [3]gauge.Record
		tolerance int
		e         api.Errno
	}{
		{[3]gauge.Record{good, later, good}, -1, api.ErrRange}, {[3]gauge.Record{good, later, good}, 2049, api.ErrRange}, {[3]gauge.Record{good, good, good}, math.MinInt, api.ErrRange},
		{[3]gauge.Record{good, later, good}, 0, api.ErrShape}, {[3]gauge.Record{good, good, later}, 2048, api.ErrShape}, {[3]gauge.Record{later, good, good}, 0, api.ErrShape},
		{[3]gauge.Record{good, shorter, good}, 0, api.ErrShape}, {[3]gauge.Record{good, good, shorter}, 0, api.ErrShape}, {[3]gauge.Record{later, later, good}, 0, api.ErrShape},
	} {
		v, n, e := gauge.Vote(row.l, row.tolerance)
		want(t, "Vote", []any{v, n, e}, []any{gauge.Record{}, [3]int{}, row.e})
	}
}

func TestWaters(t *testing.T) {
	for _, row := range []struct {
		words       string
		width       int
		highs, lows []int
	}{
		{"16 16 16 80 24 - 32", 2, []int{0, 3, 6}, []int{0}},       // example 5
		{"16 16 16 80 24 - 32", 1, []int{0, 3, 6}, []int{0, 4, 6}}, // example 5
		{"16 16 16 80 24 - 32", 4096, []int{3}, []int{0}},
		{"", 1, nil, nil},
		{"- -", 1, nil, nil},
		{"5", 4096, []int{0}, []int{0}},
		{"1 2 2 1", 1, []int{1}, []int{0, 3}}, // the first one of equal ones
		{"2 1 1 2", 1, []int{0, 3}, []int{1}},
		{"1 3 2 3 1", 2, []int{1}, []int{0, 4}}, // as high as one behind it, not above one before it
		{"1 3 2 3 1", 1, []int{1, 3}, []int{0, 2, 4}},
		{"3 - 2 - 1", 1, []int{0, 2, 4}, []int{0, 2, 4}},
		{"3 - 2 - 1", 2, []int{0}, []int{4}},
		{"-3 - 0", 2, []int{2}, []int{0}}, // a gap is no level of 0
		{"3 - 4", 2, []int{2}, []int{0}},
	} {
		r := levels(t, row.words)
		highs, e := gauge.Highs(r, row.width)
		want(t, "Highs of "+row.words, []any{highs, e}, []any{row.highs, api.OK})
		lows, e := gauge.Lows(r, row.width)
		want(t, "Lows of "+row.words, []any{lows, e}, []any{row.lows, api.OK})
	}
}

func TestWatersErrors(t *testing.T) {
	for what, f := range map[string]func(gauge.Record, int) ([]int, api.Errno){"Highs": gauge.Highs, "Lows": gauge.Lows} {
		for wanted, r := range badRecords() {
			l, e := f(r, 0)
			want(t, what, []any{l, e}, []any{[]int{}, wanted})
		}
		for _, width := range []int{0, -1, 4097, math.MinInt, math.MaxInt} {
			l, e := f(hook(), width)
			want(t, what, []any{l, e}, []any{[]int{}, api.ErrRange})
		}
	}
}

func TestAbove(t *testing.T) {
	for _, row := range []struct {
		words string
		level float32
		l     []api.Span
	}{
		{"16 16 16 80 24 - 32", 1, spans(3, 5, 6, 7)}, // example 5
		{"16 16 16 80 24 - 32", 0, spans(0, 5, 6, 7)},
		{"16 16 16 80 24 - 32", -1, spans(0, 5, 6, 7)}, // no gap is above
		{"16 16 16 80 24 - 32", 5, nil},
		{"16 16 16 80 24 - 32", 4.9375, spans(3, 4)},
		{"", 0, nil}, {"-", -64, nil}, {"1024", 64, nil}, {"-1023 -1024 -1023", -64, spans(0, 1, 2, 3)},
	} {
		l, e := gauge.Above(levels(t, row.words), row.level)
		want(t, "Above in "+row.words, []any{l, e}, []any{row.l, api.OK})
	}
	nan := float32(math.NaN())
	for wanted, r := range badRecords() {
		l, e := gauge.Above(r, nan)
		want(t, "Above", []any{l, e}, []any{spans(), wanted})
	}
	for _, row := range []struct {
		level float32
		e     api.Errno
	}{{nan, api.ErrForm}, {float32(math.Inf(1)), api.ErrForm}, {64.0625, api.ErrRange}, {0.01, api.ErrRange}} {
		l, e := gauge.Above(hook(), row.level)
		want(t, "Above", []any{l, e}, []any{spans(), row.e})
	}
}

func TestSummary(t *testing.T) {
	for _, row := range []struct {
		words string
		s     gauge.Statistics
		e     api.Errno
	}{
		{"16 16 16 80 24 - 32", gauge.Statistics{Count: 6, Sum: 184, Least: 1, Most: 5}, api.OK}, // example 5
		{"-24 -", gauge.Statistics{Count: 1, Sum: -24, Least: -1.5, Most: -1.5}, api.OK},
		{"- 24", gauge.Statistics{Count: 1, Sum: 24, Least: 1.5, Most: 1.5}, api.OK},
		{"1024 -1024 1", gauge.Statistics{Count: 3, Sum: 1, Least: -64, Most: 64}, api.OK},
		{strings.Repeat("1024 ", 4096), gauge.Statistics{Count: 4096, Sum: 4194304, Least: 64, Most: 64}, api.OK},
		{strings.Repeat("-1024 ", 4096), gauge.Statistics{Count: 4096, Sum: -4194304, Least: -64, Most: -64}, api.OK},
		{"- -", gauge.Statistics{}, api.ErrEmpty}, {"", gauge.Statistics{}, api.ErrEmpty},
	} {
		s, e := gauge.Summary(levels(t, row.words))
		want(t, "Summary", []any{s, e}, []any{row.s, row.e})
	}
	for wanted, r := range badRecords() {
		s, e := gauge.Summary(r)
		want(t, "Summary", []any{s, e}, []any{gauge.Statistics{}, wanted})
	}
}

func TestAppend(t *testing.T) {
	for _, row := range []struct{ a, b, both string }{
		{"16 -", "- 3", "16 - - 3"}, {"16", "3", "16 3"}, {"", "3 -", "3 -"}, {"- 3", "", "- 3"}, {"", "", ""}, {"- 1 -", "- - 1 -", "- 1 - - - 1 -"}, {"1 -", "1 -", "1 - 1 -"},
	} {
		a, b := levels(t, row.a), levels(t, row.b)
		a.Start = 10
		b.Start = 10 + len(a.Levels)
		both, e := gauge.Append(a, b)
		want(t, "Append", []any{words(t, both), both.Name, both.Start, e}, []any{row.both, "a", 10, api.OK})
	}
	touching, _ := gauge.Append(gauge.Record{Name: "a", Levels: []float32{1, 0}, Gaps: spans(1, 2)}, gauge.Record{Name: "a", Start: 2, Levels: []float32{0, 1}, Gaps: spans(0, 1)})
	want(t, "Append of gaps that touch", touching.Gaps, spans(1, 3))
	longest, e := gauge.Append(gauge.Record{Name: "a", Levels: make([]float32, 4000)}, gauge.Record{Name: "a", Start: 4000, Levels: make([]float32, 96)})
	want(t, "Append of as many as possible", []any{len(longest.Levels), e}, []any{4096, api.OK})
}

func TestAppendErrors(t *testing.T) {
	for wanted, bad := range badRecords() {
		other := badRecords()[api.ErrName]
		if wanted == api.ErrName {
			other = badRecords()[api.ErrRange]
		}
		r, e := gauge.Append(bad, other)
		want(t, "Append", []any{r, e}, []any{gauge.Record{}, wanted})
		r, e = gauge.Append(hook(), bad)
		want(t, "Append", []any{r, e}, []any{gauge.Record{}, wanted})
	}
	full := gauge.Record{Name: "hook", Start: 1, Levels: make([]float32, 4096)}
	elsewhere := gauge.Record{Name: "b", Start: 1, Levels: make([]float32, 4096)}
	for _, row := range []struct {
		a, b gauge.Record
		e    api.Errno
	}{
		{full, elsewhere, api.ErrConflict}, {full, full, api.ErrOrder}, {full, gauge.Record{Name: "hook", Start: 4096}, api.ErrOrder}, {full, gauge.Record{Name: "hook", Start: 4098}, api.ErrOrder},
		{full, gauge.Record{Name: "hook", Start: 4097, Levels: make([]float32, 1)}, api.ErrMany}, {full, gauge.Record{Name: "hook", Start: 4097}, api.OK},
	} {
		_, e := gauge.Append(row.a, row.b)
		want(t, "Append", e, row.e)
	}
}
