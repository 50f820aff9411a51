package tide_test

import (
	"fmt"
	"math"
	"math/rand"
	"strings"
	"testing"

	"tideway/api"
	"tideway/gauge"
	"tideway/tide"
)

// P1 of DOC.md, and its rules about memory.

// strange returns tides with everything that a tide may not be.
func strange() []tide.Tide {
	out := []tide.Tide{single(2, 3, 0), of(letters("ZHQR"), 1, 1, 2, 3, 4, 5, 6, 7, 8)}
	for _, bad := range badTides() {
		out = append(out, bad.t)
	}
	for _, n := range []int{math.MinInt, -1, 0, math.MaxInt} {
		for _, c := range []tide.Constituent{one("a", n, 1), one("a", 1, n), one("", n, n)} {
			out = append(out, of([]tide.Constituent{c}, n, n, n), of([]tide.Constituent{c}, 1))
		}
		out = append(out, single(n, n, n), single(1, n, 0), single(1, 0, n), single(n, 1, 1), of(nil, n, n, n))
	}
	return append(out, tide.Tide{Constituents: make([]tide.Constituent, 5000), Amplitudes: make([]api.Gauss, 6000)})
}

// strangeRecords returns records with everything that a record may not be.
func strangeRecords() []gauge.Record {
	nan, inf := float32(math.NaN()), float32(math.Inf(-1))
	span := func(from, to int) []api.Span { return []api.Span{{From: from, To: to}} }
	out := []gauge.Record{
		{}, g(), record(100000, "1 2 3"), record(0, strings.Repeat("1 - ", 2048)), {Name: "a"},
		{Name: "a", Start: math.MinInt, Levels: []float32{1}}, {Name: "a", Start: math.MaxInt, Levels: []float32{1, 2}},
		{Name: "a", Levels: []float32{nan, inf, math.MaxFloat32}}, {Name: "a", Levels: make([]float32, 5000), Gaps: make([]api.Span, 5000)},
		{Name: "a", Levels: []float32{1, 2}, Gaps: span(math.MinInt, math.MaxInt)}, {Name: "a", Levels: []float32{1, 2}, Gaps: span(math.MaxInt, math.MinInt)}, {Name: "a", Levels: []float32{1, 2}, Gaps: span(1, 3)},
	}
	for _, r := range badRecords() {
		out = append(out, r)
	}
	return out
}

func TestNoFunctionPanics(t *testing.T) {
	numbers := []int{math.MinInt, -1, 0, 1, 4096, 100000, math.MaxInt}
	calls := 0
	check := func(what string, call func()) {
		defer func() {
			if x := recover(); x != nil {
				t.Errorf("%s: panic %v", what, x)
			}
		}()
		calls++
		call()
	}
	for _, x := range strange() {
		for _, r := range strangeRecords() {
			for what, f := range fits() {
				check(what, func() { f(r, x.Constituents) })
			}
			check("CheckKernel", func() { tide.CheckKernel(r, x.Constituents, x.Amplitudes) })
			check("Residual", func() { tide.Residual(r, x) })
			check("Ticks", func() { tide.Ticks(r) })
		}
		for _, y := range strange() {
			check("Sum", func() { tide.Sum(x, y) })
		}
		for _, n := range numbers {
			for _, m := range numbers {
				check("Predict", func() { tide.Predict(x, n, m) })
				check("Levels", func() { tide.Levels(x, n, m) })
			}
			for _, c := range x.Constituents[:min(len(x.Constituents), 5)] {
				check("Character", func() { tide.Character(c, n) })
			}
			check("Adjust", func() { tide.Adjust(x, n) })
			check("Nodal", func() { tide.Nodal(n) })
		}
		check("Told", func() { tide.Told(x) })
		check("Print", func() { tide.Print(x) })
	}
	r := rand.New(rand.NewSource(19))
	for range 2000 {
		text := []byte("tide 2\nconstituent Z 1 0 3 0\nconstituent H 1 2 -5 9\n")
		text[r.Intn(len(text))] = byte(r.Intn(256))
		check("Parse", func() { tide.Parse(string(text)) })
		l := []float32{math.Float32frombits(r.Uint32()), 1, 0, math.Float32frombits(r.Uint32())}
		check("Highs", func() { tide.Highs(l) })
		check("Lows", func() { tide.Lows(l) })
	}
	if calls < 10000 {
		t.Errorf("only %d calls", calls)
	}
}

// spoil overwrites all that a tide has in slices.
func spoil(x tide.Tide) {
	for i := range x.Constituents {
		x.Constituents[i] = one("spoilt", 7, 3)
	}
	for i := range x.Amplitudes {
		x.Amplitudes[i] = api.Gauss{Re: 77, Im: 77}
	}
}

func TestTidesShareNoMemory(t *testing.T) {
	other := of([]tide.Constituent{one("x", 9, 1)}, 1, 1, 0)
	for what, f := range map[string]func(x tide.Tide) tide.Tide{
		"Sum":             func(x tide.Tide) tide.Tide { out, _ := tide.Sum(x, other); return out },
		"Sum, second":     func(x tide.Tide) tide.Tide { out, _ := tide.Sum(other, x); return out },
		"Sum with itself": func(x tide.Tide) tide.Tide { out, _ := tide.Sum(x, x); return out },
		"Adjust":          func(x tide.Tide) tide.Tide { out, _ := tide.Adjust(x, 2024); return out },
		"Adjust by 1":     func(x tide.Tide) tide.Tide { out, _ := tide.Adjust(x, 4); return out },
		"Analyse":         func(x tide.Tide) tide.Tide { out, _ := tide.Analyse(g(), x.Constituents); return out },
	} {
		fresh := func() tide.Tide { return of(letters("ZH"), 6, 3, 0, 0, 4) }
		x := fresh()
		out := f(x)
		before := fmt.Sprint(out)
		want(t, what+" changes its argument", x, fresh())
		spoil(x)
		want(t, what+" keeps its argument", fmt.Sprint(out), before)
		x = fresh()
		spoil(f(x))
		want(t, what+" gives its argument out", x, fresh())
	}
	want(t, "the other tide", other, of([]tide.Constituent{one("x", 9, 1)}, 1, 1, 0))
}

func TestSumsDoNotGrowTheirArguments(t *testing.T) {
	l, v := letters("ZHQ"), gs(1, 0, 2, 0, 3, 0)
	sum, e := tide.Sum(tide.Tide{Constituents: l[:1], Amplitudes: v[:1], Den: 1}, of(letters("SR"), 1, 5, 0, 6, 0))
	want(t, "Sum", []any{sum, e}, []any{of(letters("ZSR"), 1, 1, 0, 5, 0, 6, 0), api.OK})
	want(t, "what lies behind the argument", []any{l, v}, []any{letters("ZHQ"), gs(1, 0, 2, 0, 3, 0)})
}

func TestFitsChangeNoArgument(t *testing.T) {
	r, l := record(3, "1 - 5 5 -2 7"), letters("ZQH")
	for _, f := range fits() {
		f(r, l)
	}
	v := gs(1, 0, 2, 0, 3, 0)
	tide.CheckKernel(r, l, v)
	want(t, "the arguments", []any{r, l, v}, []any{record(3, "1 - 5 5 -2 7"), letters("ZQH"), gs(1, 0, 2, 0, 3, 0)})
}

func TestRowsShareNoMemory(t *testing.T) {
	m, _ := tide.Normal(g(), letters("ZHQ"))
	for i := range m[0] {
		m[0][i] = api.Gauss{Re: 9}
	}
	m[0] = append(m[0], api.Gauss{Re: 9})
	want(t, "the other rows", m[1:], [][]api.Gauss{gs(0, 0, 4, 0, 0, 0), gs(0, 0, 0, 0, 4, 0)})
	again, _ := tide.Normal(g(), letters("ZHQ"))
	want(t, "a later result", again[0], gs(4, 0, 0, 0, 0, 0))
}

func TestLaterResultsAreNotSpoilt(t *testing.T) {
	even, l := record(0, "1 - 1"), letters("ZH")
	v, _ := tide.Kernel(even, l)
	v[0] = api.Gauss{Re: 9}
	v, _ = tide.Kernel(even, l)
	want(t, "Kernel", v, gs(2, 0, -2, 0))
	ticks, _ := tide.Ticks(even)
	ticks[0] = 9
	ticks, _ = tide.Ticks(even)
	want(t, "Ticks", ticks, []int{0, 2})
	values, _ := tide.Predict(single(1, 1, 0), 0, 1)
	values[0] = api.Gauss{Re: 9}
	values, _ = tide.Predict(single(1, 1, 0), 0, 1)
	want(t, "Predict", values, gs(1, 0))
	levels := []float32{1, 2, 1}
	tide.Highs(levels)
	tide.Lows(levels)
	want(t, "levels", levels, []float32{1, 2, 1})
}
