package tide_test

import (
	"math"
	"math/rand"
	"strings"
	"testing"

	"tideway/api"
	"tideway/gauge"
	"tideway/tide"
)

// The limits of the chapter, as numbers: the other tests use the constants.
func TestLimits(t *testing.T) {
	want(t, "limits", []int{tide.MaxConstituents, tide.MaxLength, tide.MaxTicks, tide.MaxDen, tide.MaxPart, tide.MaxSmallDen, tide.MaxSmallPart, tide.MaxYear}, []int{4, 96, 128, 268435456, 8796093022208, 4096, 4194304, 9999})
}

// P2.1

func TestCheckConstituents(t *testing.T) {
	for _, l := range [][]tide.Constituent{
		letters("Z"), letters("ZHQR"), letters("S"),
		{one("a", 96, 3), one("A", 96, 3), one("b", 1, 0), one("a_9", 1, 0)},
		{one(strings.Repeat("a", 24), 1, 0)},
	} {
		want(t, "CheckConstituents", tide.CheckConstituents(l), api.OK)
	}
	for _, bad := range badLists() {
		want(t, "CheckConstituents", tide.CheckConstituents(bad.l), bad.e)
	}
	for _, c := range []tide.Constituent{one("a", math.MinInt, 0), one("a", math.MaxInt, 0), one("a", 1, math.MinInt), one("a", 1, math.MaxInt)} {
		want(t, "CheckConstituents", tide.CheckConstituents([]tide.Constituent{c}), api.ErrRange)
	}
}

func TestCharacter(t *testing.T) {
	const e, i, n, m = "1", "i", "-1", "-i"
	names := map[string]api.Gauss{e: {Re: 1}, i: {Im: 1}, n: {Re: -1}, m: {Im: -1}}
	for _, row := range []struct {
		c     tide.Constituent
		from  int
		turns []string
	}{
		{one("a", 1, 0), 0, []string{e, e, e, e, e}},
		{one("a", 1, 1), 0, []string{e, i, n, m, e, i}},
		{one("a", 1, 2), 0, []string{e, n, e, n, e}},
		{one("a", 1, 3), 0, []string{e, m, n, i, e, m}},
		{one("a", 2, 2), 0, []string{e, e, n, n, e, e, n}},
		{one("a", 3, 3), 0, []string{e, e, e, m, m, m, n, n, n, i, i, i, e}},
		{one("a", 5, 1), 3, []string{e, e, i, i, i, i, i, n}},
		{one("a", 96, 1), 95, []string{e, i}}, {one("a", 96, 1), 191, []string{i, n}}, {one("a", 96, 3), 287, []string{n, i}},
		{one("a", 96, 1), 99999, []string{i, i}}, // 100000 is 1041 times 96, and 64
		{one("a", 1, 3), 99997, []string{m, n, i, e}},
	} {
		for k, turn := range row.turns {
			x, err := tide.Character(row.c, row.from+k)
			want(t, "Character", []any{x, err}, []any{names[turn], api.OK})
		}
	}
}

func TestCharacterErrors(t *testing.T) {
	for _, bad := range badLists() {
		if len(bad.l) != 1 {
			continue
		}
		for _, tick := range []int{0, -1} {
			x, e := tide.Character(bad.l[0], tick)
			wantError(t, "Character", x, e, bad.e)
		}
	}
	for _, tick := range []int{-1, 100001, math.MinInt, math.MaxInt} {
		x, e := tide.Character(one("a", 3, 1), tick)
		wantError(t, "Character", x, e, api.ErrRange)
	}
	x, e := tide.Character(one("9", 3, 1), -1)
	wantError(t, "Character of no name at no tick", x, e, api.ErrName)
}

func TestTicks(t *testing.T) {
	for _, row := range []struct {
		r    gauge.Record
		want []int
	}{
		{g(), []int{0, 1, 2, 3}},
		{record(10, "16 16 16 80 24 - 32"), []int{10, 11, 12, 13, 14, 16}},
		{record(7, "- 0 - - 0 0 -"), []int{8, 11, 12}},
		{record(7, ""), nil}, {record(7, "- - -"), nil},
		{record(100000, "- 5 6"), []int{100001, 100002}}, // a record may end behind MaxTime
	} {
		l, e := tide.Ticks(row.r)
		want(t, "Ticks", []any{l, e}, []any{row.want, api.OK})
	}
	l, e := tide.Ticks(record(3, strings.Repeat("1 ", 4096)))
	want(t, "Ticks of a long record", []any{len(l), e}, []any{4096, api.OK})
	if len(l) == 4096 {
		want(t, "the last tick", l[4095], 4098)
	}
	for wanted, r := range badRecords() {
		l, e := tide.Ticks(r)
		wantError(t, "Ticks", l, e, wanted)
	}
	l, e = tide.Ticks(gauge.Record{Name: "a", Levels: make([]float32, 4097)})
	wantError(t, "Ticks of a longer record", l, e, api.ErrMany)
}

// fits are the functions of a record and constituents; those that take more get what is wrong, but not first.
func fits() map[string]func(r gauge.Record, l []tide.Constituent) (any, api.Errno) {
	type list = []tide.Constituent
	return map[string]func(r gauge.Record, l list) (any, api.Errno){
		"Normal":      func(r gauge.Record, l list) (any, api.Errno) { x, e := tide.Normal(r, l); return x, e },
		"Determinant": func(r gauge.Record, l list) (any, api.Errno) { x, e := tide.Determinant(r, l); return x, e },
		"Rank":        func(r gauge.Record, l list) (any, api.Errno) { x, e := tide.Rank(r, l); return x, e },
		"Alike":       func(r gauge.Record, l list) (any, api.Errno) { x, e := tide.Alike(r, l); return x, e },
		"Kernel":      func(r gauge.Record, l list) (any, api.Errno) { x, e := tide.Kernel(r, l); return x, e },
		"CheckKernel": func(r gauge.Record, l list) (any, api.Errno) {
			return 0, tide.CheckKernel(r, l, gs(tide.MaxPart+1, 0, 0, 0, 0, 0, 0, 0, 0, 0, 0, 0))
		},
		"Analyse": func(r gauge.Record, l list) (any, api.Errno) { x, e := tide.Analyse(r, l); return x, e },
		"Least":   func(r gauge.Record, l list) (any, api.Errno) { x, e := tide.Least(r, l); return x, e },
		"Residual": func(r gauge.Record, l list) (any, api.Errno) {
			x, e := tide.Residual(r, tide.Tide{Constituents: l})
			return x, e
		},
	}
}

func TestFitErrors(t *testing.T) {
	many := record(5, strings.Repeat("- 1 ", 60)+strings.Repeat("7 ", 69))
	for what, f := range fits() {
		for wanted, r := range badRecords() {
			for _, l := range [][]tide.Constituent{nil, {{}}, letters("Z")} {
				x, e := f(r, l)
				wantError(t, what, x, e, wanted)
			}
		}
		for _, l := range [][]tide.Constituent{nil, {{}}, letters("Z"), letters("ZZ")} {
			x, e := f(many, l)
			wantError(t, what+" on 129 ticks", x, e, api.ErrMany)
			x, e = f(gauge.Record{Name: "a", Levels: make([]float32, 4097)}, l)
			wantError(t, what+" on a long record", x, e, api.ErrMany)
		}
		for _, bad := range badLists() {
			x, e := f(record(0, "1 - 2 - - 3"), bad.l)
			wantError(t, what, x, e, bad.e)
		}
	}
	most := record(5, strings.Repeat("- 1 ", 60)+strings.Repeat("7 ", 68)+strings.Repeat("- ", 3000))
	d, e := tide.Determinant(most, letters("Z"))
	want(t, "Determinant on 128 ticks", []any{d, e}, []any{128, api.OK})
}

func TestNormal(t *testing.T) {
	for _, row := range []struct {
		r    gauge.Record
		l    []tide.Constituent
		want [][]api.Gauss
		det  int
	}{
		{g(), letters("QR"), [][]api.Gauss{gs(4, 0, 0, 0), gs(0, 0, 4, 0)}, 16},                    // example 1
		{record(0, "16 0 -16 -"), letters("ZH"), [][]api.Gauss{gs(3, 0, 1, 0), gs(1, 0, 3, 0)}, 8}, // example 2
		{record(0, "16 - -16 -"), letters("ZH"), [][]api.Gauss{gs(2, 0, 2, 0), gs(2, 0, 2, 0)}, 0}, // example 3
		{record(0, "5 6"), letters("ZQ"), [][]api.Gauss{gs(2, 0, 1, 1), gs(1, -1, 2, 0)}, 2},       // the conjugate is that of the row
		{record(3, "5 6"), letters("ZQ"), [][]api.Gauss{gs(2, 0, 1, -1), gs(1, 1, 2, 0)}, 2},       // ticks begin at the start
		{record(0, "5"), letters("Z"), [][]api.Gauss{gs(1, 0)}, 1},
		{record(0, ""), letters("ZH"), [][]api.Gauss{gs(0, 0, 0, 0), gs(0, 0, 0, 0)}, 0},
		{record(0, "- -"), letters("Q"), [][]api.Gauss{gs(0, 0)}, 0},
		{record(100000, "- 3 3"), letters("ZQ"), [][]api.Gauss{gs(2, 0, -1, 1), gs(-1, -1, 2, 0)}, 2}, // behind MaxTime
	} {
		m, e := tide.Normal(row.r, row.l)
		want(t, "Normal", []any{m, e}, []any{row.want, api.OK})
		d, e := tide.Determinant(row.r, row.l)
		want(t, "Determinant", []any{d, e}, []any{row.det, api.OK})
	}
	d, e := tide.Determinant(record(1, strings.Repeat("1 ", 128)), letters("ZHQR"))
	want(t, "the greatest determinant", []any{d, e}, []any{1 << 28, api.OK})
}

func TestRankAndAlike(t *testing.T) {
	all := [][2]int{{0, 1}, {0, 2}, {0, 3}, {1, 2}, {1, 3}, {2, 3}}
	same := []tide.Constituent{one("a", 5, 1), one("b", 5, 1), one("c", 5, 2)}
	for _, row := range []struct {
		r     gauge.Record
		l     []tide.Constituent
		rank  int
		alike [][2]int
	}{
		{record(0, "1 - 1"), letters("ZH"), 1, [][2]int{{0, 1}}},           // example 3
		{record(0, "1 - 1"), letters("ZHQ"), 2, [][2]int{{0, 1}}},          // example 3
		{record(0, "1 - 1"), letters("ZQHR"), 2, [][2]int{{0, 2}, {1, 3}}}, // Q is R there
		{g(), letters("ZHQR"), 4, nil},
		{g(), letters("ZHQS"), 4, nil},
		{record(0, "1 1 1"), letters("ZHQR"), 3, nil},
		{record(0, "1 1"), letters("ZHQR"), 2, nil},
		{record(1, "1 - 1"), letters("ZH"), 1, [][2]int{{0, 1}}},                                          // H is -Z there
		{record(1, "1 - - - 1"), letters("ZQHR"), 1, all},                                                 // Q is i Z
		{record(2, "1"), letters("ZHQR"), 1, all},                                                         // one tick
		{record(2, ""), letters("ZHQR"), 0, all},                                                          // no tick
		{record(2, "-"), letters("S"), 0, nil},                                                            //
		{record(3, "1 1 1 1 1 1 1 1 1 1 1 1"), same, 2, [][2]int{{0, 1}}},                                 // all ticks
		{record(0, "1 1 1 1 1"), []tide.Constituent{one("a", 5, 1), one("b", 5, 2)}, 1, [][2]int{{0, 1}}}, // no turn
		{record(0, "1 1 1 1 1 1"), []tide.Constituent{one("a", 5, 1), one("b", 5, 2)}, 2, nil},            // one turn
		{record(0, "1 1 1 1 1"), []tide.Constituent{one("a", 5, 1), one("b", 5, 2), one("c", 1, 1), one("d", 2, 1)}, 3, [][2]int{{0, 1}}},
	} {
		rank, e := tide.Rank(row.r, row.l)
		want(t, "Rank", []any{rank, e}, []any{row.rank, api.OK})
		alike, e := tide.Alike(row.r, row.l)
		want(t, "Alike", []any{alike, e}, []any{row.alike, api.OK})
	}
}

func TestCharactersByDefinition(t *testing.T) {
	r := rand.New(rand.NewSource(1))
	for range 500 {
		rec, l := randomCase(r)
		for _, c := range l {
			tick := r.Intn(100001)
			x, e := tide.Character(c, tick)
			want(t, "Character", []any{x, e}, []any{gauss(character(c, tick)), api.OK})
		}
		m, _ := gram(rec, l)
		got, e := tide.Normal(rec, l)
		want(t, "error of Normal", e, api.OK)
		for j, row := range got {
			for k, x := range row {
				want(t, "Normal", x, gauss(m[j][k]))
			}
		}
		d, e := tide.Determinant(rec, l)
		want(t, "Determinant", []any{d, e}, []any{gauss(leibniz(m, len(l), -1, nil)).Re, api.OK})
		rank, e := tide.Rank(rec, l)
		want(t, "Rank", []any{rank, e}, []any{rankOf(rec, l), api.OK})
		alike, e := tide.Alike(rec, l)
		want(t, "Alike", []any{alike, e}, []any{alikeOf(rec, l), api.OK})
	}
}

// rankOf tries all choices of constituents.
func rankOf(r gauge.Record, l []tide.Constituent) int {
	out := 0
	for choice := range 1 << len(l) {
		var some []tide.Constituent
		for i, c := range l {
			if choice>>i&1 == 1 {
				some = append(some, c)
			}
		}
		if m, _ := gram(r, some); leibniz(m, len(some), -1, nil) != 0 {
			out = max(out, len(some))
		}
	}
	return out
}

// alikeOf tries the four factors by which characters may differ: those on which a record cannot tell them apart.
func alikeOf(r gauge.Record, l []tide.Constituent) [][2]int {
	ticks, _ := observed(r)
	var out [][2]int
	for j := range l {
		for k := j + 1; k < len(l); k++ {
			found := false
			for _, factor := range []complex128{1, 1i, -1, -1i} {
				same := true
				for _, tick := range ticks {
					same = same && character(l[j], tick) == factor*character(l[k], tick)
				}
				found = found || same
			}
			if found {
				out = append(out, [2]int{j, k})
			}
		}
	}
	return out
}
