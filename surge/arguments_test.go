package surge_test

import (
	"fmt"
	"math"
	"math/rand"
	"slices"
	"testing"

	"tideway/api"
	"tideway/surge"
)

// P1 of DOC.md, and its rules about memory.

// strangeStores returns domains and pieces with everything that they may not be, and some that have no error.
func strangeStores() []badStore {
	out := []badStore{{d: dd()}, {d: dd(), l: whole(dd(), 5, counted)}, {d: large(), l: zeros(large(), 4096)}}
	for _, n := range []int{math.MinInt, -1, 0, math.MaxInt} {
		d := dd()
		d.Rows, d.Columns, d.Ticks = n, n, n
		out = append(out, badStore{d: d, l: []surge.Piece{{Run: n, Tick: n, Row: n}}}, badStore{d: dd(), l: []surge.Piece{{Run: n, Member: "a", Tick: n, Row: n, Values: make([]float32, 99)}}})
	}
	return append(out, badStores()...)
}

func TestNoFunctionPanics(t *testing.T) {
	numbers := []int{math.MinInt, -1, 0, 1, 5, 8, 100000, math.MaxInt}
	calls := 0
	check := func(what string, call func()) {
		defer func() {
			if x := recover(); x != nil {
				t.Errorf("%s: panic %v", what, x)
			}
		}()
		calls++
		call()
	}
	for _, x := range strangeStores() {
		check("CheckDomain", func() { surge.CheckDomain(x.d) })
		check("CheckStore", func() { surge.CheckStore(x.d, x.l) })
		check("Runs", func() { surge.Runs(x.d, x.l) })
		check("Print", func() { surge.Print(x.d, x.l) })
		check("Parse", func() { surge.Parse(x.d, runText) })
		for _, p := range x.l[:min(len(x.l), 3)] {
			check("CheckPiece", func() { surge.CheckPiece(x.d, p) })
		}
		for _, other := range [][]surge.Piece{nil, x.l, whole(dd(), 5, counted), make([]surge.Piece, 5)} {
			check("Merge", func() { surge.Merge(x.d, x.l, other) })
			check("Merge", func() { surge.Merge(x.d, other, x.l) })
		}
		for _, n := range numbers {
			check("Missing", func() { surge.Missing(x.d, x.l, n) })
			check("Latest", func() { surge.Latest(x.d, x.l, n) })
			check("Field", func() { surge.Field(x.d, x.l, 5, "a", n) })
			check("Field", func() { surge.Field(x.d, x.l, n, "b", 0) })
			check("Follow", func() { surge.Follow(x.d, x.l, 5, surge.Place{Y: n, X: n}, transfer(0, 0, 1)) })
			check("Follow", func() { surge.Follow(x.d, x.l, n, surge.Place{}, transfer(n, n, n)) })
		}
	}
	for _, n := range numbers {
		for _, m := range numbers {
			check("At", func() { surge.At([][]float32{{1, 2}, {3, 4}}, surge.Place{Y: n, X: m}) })
			check("At", func() { surge.At([][]float32{nil, {float32(n)}}, surge.Place{Y: n, X: m}) })
			check("Apply", func() { surge.Apply(transfer(n, m, n, m), []int{n, m}) })
			check("CheckTransfer", func() { surge.CheckTransfer(transfer(n, m, n)) })
			check("CheckNights", func() { surge.CheckNights([]surge.Night{night([]int{n}, []int{m})}) })
			check("Learn", func() { surge.Learn([]surge.Night{night([]int{n}, []int{m}), {}}) })
			check("Verify", func() { surge.Verify(two(), api.Interval{Low: n, High: m}) })
			check("CheckEnsemble", func() { surge.CheckEnsemble([]surge.Course{course(n, m), course(m, n)}) })
			check("Enclose", func() { surge.Enclose(pair(), api.Interval{Low: n, High: m}) })
			for _, k := range numbers {
				check("Exceed", func() { surge.Exceed(pair(), k, api.Span{From: n, To: m}) })
				check("Quantile", func() { surge.Quantile(pair(), k, ratio(n, m)) })
			}
		}
	}
	for _, bad := range badNights() {
		check("Learn", func() { surge.Learn(bad.l) })
		check("Verify", func() { surge.Verify(bad.l, api.Interval{}) })
	}
	for _, bad := range badEnsembles() {
		check("Exceed", func() { surge.Exceed(bad.l, 0, api.Span{}) })
		check("Quantile", func() { surge.Quantile(bad.l, 0, ratio(1, 2)) })
		check("Enclose", func() { surge.Enclose(bad.l, api.Interval{}) })
	}
	checkRandom(check)
	if calls < 10000 {
		t.Errorf("only %d calls", calls)
	}
}

// checkRandom calls with texts and fields of random bytes.
func checkRandom(check func(what string, call func())) {
	r := rand.New(rand.NewSource(43))
	for range 8000 {
		text := []byte(runText)
		text[r.Intn(len(text))] = byte(r.Intn(256))
		check("Parse", func() { surge.Parse(dd(), string(text)) })
		field := [][]float32{{math.Float32frombits(r.Uint32()), 1}, {1, math.Float32frombits(r.Uint32())}}
		check("At", func() { surge.At(field, surge.Place{Y: r.Intn(5), X: r.Intn(5)}) })
	}
}

// spoil overwrites the values of pieces, and the pieces.
func spoil(l []surge.Piece) {
	for i, p := range l {
		for k := range p.Values {
			p.Values[k] = 63
		}
		l[i] = surge.Piece{Run: 77}
	}
}

func TestStoresShareNoMemory(t *testing.T) {
	fresh := func() []surge.Piece { return whole(dd(), 5, counted) }
	for what, f := range map[string]func(l []surge.Piece) []surge.Piece{
		"nothing":    func(l []surge.Piece) []surge.Piece { out, _ := surge.Merge(dd(), l, nil); return out },
		"to nothing": func(l []surge.Piece) []surge.Piece { out, _ := surge.Merge(dd(), nil, l); return out },
		"itself":     func(l []surge.Piece) []surge.Piece { out, _ := surge.Merge(dd(), l, l); return out },
		"its halves": func(l []surge.Piece) []surge.Piece { out, _ := surge.Merge(dd(), l[4:], l[:4]); return out },
	} {
		l := fresh()
		out := f(l)
		want(t, "Merge with "+what+" changes its argument", l, fresh())
		spoil(l)
		want(t, "Merge with "+what+" keeps its argument", out, fresh())
		l = fresh()
		spoil(f(l))
		want(t, "Merge with "+what+" gives its argument out", l, fresh())
		out = f(fresh())
		for i := range out {
			_ = append(out[i].Values, 63)
			out[i].Values[0] = 63
		}
		for i, p := range out {
			want(t, "Merge with "+what+" shares values", p.Values[1], fresh()[i].Values[1])
		}
	}
}

func TestMergeDoesNotGrowItsArguments(t *testing.T) {
	all := whole(dd(), 5, counted)
	l, e := surge.Merge(dd(), all[:2], all[5:6])
	want(t, "Merge", []any{l, e}, []any{[]surge.Piece{all[0], all[1], all[5]}, api.OK})
	want(t, "what lies behind the argument", all, whole(dd(), 5, counted))
}

func TestFieldsShareNoMemory(t *testing.T) {
	l := whole(dd(), 5, counted)
	field, _ := surge.Field(dd(), l, 5, "a", 0)
	before := fmt.Sprint(field)
	spoil(l)
	want(t, "a field", fmt.Sprint(field), before)
	l = whole(dd(), 5, counted)
	field, _ = surge.Field(dd(), l, 5, "a", 0)
	second := fmt.Sprint(field[1])
	field[0] = append(field[0], 63)
	field[0][0], field[0][1] = 63, 63
	want(t, "the other row", fmt.Sprint(field[1]), second)
	want(t, "the store", l, whole(dd(), 5, counted))
	surge.At(field[1:], surge.Place{X: 2})
	want(t, "the field that was asked", fmt.Sprint(field[1]), second)
}

func TestCoursesShareNoMemory(t *testing.T) {
	l, x := whole(dd(), 5, counted), transfer(0, 0, 1, 2)
	courses, _ := surge.Follow(dd(), l, 5, surge.Place{}, x)
	wanted := fmt.Sprint(courses[1])
	for i := range courses[0].Heights {
		courses[0].Heights[i] = 63
	}
	courses[0].Heights = append(courses[0].Heights, 63)
	want(t, "the other course", fmt.Sprint(courses[1]), wanted)
	want(t, "the arguments", []any{l, x}, []any{whole(dd(), 5, counted), transfer(0, 0, 1, 2)})
	numbers := []int{4, 5, -7}
	out, _ := surge.Apply(transfer(0, 0, 1), numbers)
	out[0] = 63
	want(t, "the numbers", numbers, []int{4, 5, -7})
	numbers[1] = 62
	want(t, "the transferred numbers", out, []int{63, 5, -7})
}

func TestEnsemblesAndNightsStayAsTheyAre(t *testing.T) {
	courses, nights := slices.Concat(pair(), pair()), two()
	surge.Exceed(courses, 12, api.Span{From: 0, To: 2})
	surge.Quantile(courses, 0, ratio(1, 2))
	enclosure, _ := surge.Enclose(courses, api.Interval{Low: -2, High: 2})
	enclosure[0] = api.Interval{}
	surge.Learn(nights)
	outside, _ := surge.Verify(nights, api.Interval{Low: 0, High: 2})
	outside[0] = 63
	want(t, "the arguments", []any{courses, nights}, []any{slices.Concat(pair(), pair()), two()})
	enclosure, _ = surge.Enclose(courses, api.Interval{Low: -2, High: 2})
	outside, _ = surge.Verify(nights, api.Interval{Low: 0, High: 2})
	want(t, "later results", []any{enclosure, outside}, []any{[]api.Interval{{Low: 8, High: 14}, {Low: 7, High: 16}}, []int{0}})
}

func TestParsedStoresShareNoMemory(t *testing.T) {
	l, _, _ := surge.Parse(dd(), runText)
	spoil(l[1:])
	_ = append(l[0].Values, 63)
	again, _, e := surge.Parse(dd(), runText)
	want(t, "Parse", []any{l[0], again, e}, []any{runStore()[0], runStore(), api.OK})
}
