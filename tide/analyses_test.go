package tide_test

import (
	"math/big"
	"math/rand"
	"strings"
	"testing"

	"tideway/api"
	"tideway/gauge"
	"tideway/tide"
)

// P2.3

func TestAnalyse(t *testing.T) {
	for _, row := range []struct {
		r          gauge.Record
		l          []tide.Constituent
		amplitudes []api.Gauss
		den        int
		least      api.Ratio
	}{
		{g(), letters("QR"), gs(8, 0, 8, 0), 1, api.Ratio{Num: 0, Den: 1}},                       // example 1
		{record(0, "16 0 -16 -"), letters("ZH"), gs(0, 0, 0, 0), 1, api.Ratio{Num: 512, Den: 1}}, // example 2
		{g(), letters("Z"), gs(0, 0), 1, api.Ratio{Num: 512, Den: 1}},                            // no part of it
		{record(0, "1 2"), letters("Z"), gs(3, 0), 2, api.Ratio{Num: 1, Den: 2}},                 // the mean
		{record(0, "1 2 -"), letters("Z"), gs(3, 0), 2, api.Ratio{Num: 1, Den: 2}},               // a gap is no level of 0
		{record(0, "1 3"), letters("Z"), gs(2, 0), 1, api.Ratio{Num: 2, Den: 1}},                 // in lowest terms
		{record(1, "1 3"), letters("H"), gs(1, 0), 1, api.Ratio{Num: 8, Den: 1}},                 // ticks begin at the start
		{record(1, "4"), letters("Q"), gs(0, -4), 1, api.Ratio{Num: 0, Den: 1}},                  // -4i times i
		{record(0, "2 3"), letters("Q"), gs(2, -3), 2, api.Ratio{Num: 13, Den: 2}},               // the conjugates
		{record(0, "1 0 0"), letters("ZH"), gs(1, 0, 1, 0), 4, api.Ratio{Num: 1, Den: 2}},        // 2 and 2 by the determinant 8
		{record(0, "2 0 2 0"), letters("HZ"), gs(1, 0, 1, 0), 1, api.Ratio{Num: 0, Den: 1}},      // in the order given
		{record(100000, "3 3 3"), letters("Z"), gs(3, 0), 1, api.Ratio{Num: 0, Den: 1}},          // behind MaxTime
		{record(0, strings.Repeat("1024 ", 128)), letters("ZHQR"), gs(1024, 0, 0, 0, 0, 0, 0, 0), 1, api.Ratio{Num: 0, Den: 1}},
		{record(0, strings.Repeat("1024 -1024 ", 64)), letters("Z"), gs(0, 0), 1, api.Ratio{Num: 128 << 20, Den: 1}},
		{record(0, strings.Repeat("1024 -1024 -1024 -1024 ", 32)), letters("ZHQ"), gs(-512, 0, 512, 0, 512, 0), 1, api.Ratio{Num: 128 << 18, Den: 1}},
	} {
		a, e := tide.Analyse(row.r, row.l)
		want(t, "Analyse", []any{a, e}, []any{tide.Tide{Constituents: row.l, Amplitudes: row.amplitudes, Den: row.den}, api.OK})
		least, e := tide.Least(row.r, row.l)
		want(t, "Least", []any{least, e}, []any{row.least, api.OK})
	}
}

func TestSingularAnalyses(t *testing.T) {
	for _, row := range []struct {
		r gauge.Record
		l []tide.Constituent
	}{
		{record(0, "1 - 1"), letters("ZH")}, {record(0, "1 - 1"), letters("ZHQ")}, {record(0, "1 - 1"), letters("ZQH")}, {record(0, "1 1 1"), letters("ZHQR")},
		{record(0, ""), letters("Z")}, {record(0, "- -"), letters("ZQ")},
		{record(0, strings.Repeat("1 ", 96)), []tide.Constituent{one("a", 96, 1), one("b", 96, 2)}},
	} {
		a, e := tide.Analyse(row.r, row.l)
		wantError(t, "Analyse", a, e, api.ErrSingular)
		least, e := tide.Least(row.r, row.l)
		wantError(t, "Least", least, e, api.ErrSingular)
	}
}

// squares returns the squared residual by its definition, in numbers of any size.
func squares(r gauge.Record, a tide.Tide) api.Ratio {
	sum := new(big.Int)
	ticks, levels := observed(r)
	for i, tick := range ticks {
		left := complex(float64(levels[i]*a.Den), 0)
		for j, c := range a.Constituents {
			left -= complex(float64(a.Amplitudes[j].Re), float64(a.Amplitudes[j].Im)) * character(c, tick)
		}
		for _, part := range []float64{real(left), imag(left)} {
			x := big.NewInt(int64(part))
			sum.Add(sum, x.Mul(x, x))
		}
	}
	den := big.NewInt(int64(a.Den))
	quotient := new(big.Rat).SetFrac(sum, den.Mul(den, den))
	return api.Ratio{Num: int(quotient.Num().Int64()), Den: int(quotient.Denom().Int64())}
}

// analysisOf returns the analysis by determinants, as the chapter gives it: its denominator is 0 if there is none.
func analysisOf(r gauge.Record, l []tide.Constituent) tide.Tide {
	m, b := gram(r, l)
	out := tide.Tide{Constituents: l, Den: gauss(leibniz(m, len(l), -1, nil)).Re}
	divisor := new(big.Int).SetInt64(int64(out.Den))
	for j := range l {
		x := gauss(leibniz(m, len(l), j, b))
		out.Amplitudes = append(out.Amplitudes, x)
		for _, part := range []int{x.Re, x.Im} {
			p := big.NewInt(int64(part))
			divisor.GCD(nil, nil, divisor, p.Abs(p))
		}
	}
	if out.Den == 0 {
		return tide.Tide{}
	}
	by := int(divisor.Int64())
	out.Den /= by
	for j, x := range out.Amplitudes {
		out.Amplitudes[j] = api.Gauss{Re: x.Re / by, Im: x.Im / by}
	}
	return out
}

func TestAnalysesByDefinition(t *testing.T) {
	r := rand.New(rand.NewSource(3))
	fitted, widest := 0, 0
	for range 800 {
		rec, l := randomCase(r)
		wanted := analysisOf(rec, l)
		a, e := tide.Analyse(rec, l)
		least, f := tide.Least(rec, l)
		if wanted.Den == 0 {
			wantError(t, "Analyse", a, e, api.ErrSingular)
			wantError(t, "Least", least, f, api.ErrSingular)
			continue
		}
		fitted++
		widest = max(widest, wanted.Den)
		want(t, "Analyse", []any{a, e}, []any{wanted, api.OK})
		want(t, "Least", []any{least, f}, []any{squares(rec, wanted), api.OK})
	}
	if fitted < 200 || fitted > 700 || widest < 1<<20 {
		t.Errorf("%d of 800 cases are analysed, the greatest denominator is %d", fitted, widest)
	}
}

func TestResidual(t *testing.T) {
	for _, row := range []struct {
		r    gauge.Record
		t    tide.Tide
		want api.Ratio
	}{
		{g(), single(2, 3, 0), api.Ratio{Num: 521, Den: 1}},                                                              // example 4
		{g(), tide.Tide{Constituents: letters("QR"), Amplitudes: gs(8, 0, 8, 0), Den: 1}, api.Ratio{Num: 0, Den: 1}},     // example 1
		{record(0, "16 0 -16 -"), single(1, 0, 0), api.Ratio{Num: 512, Den: 1}},                                          // example 2
		{record(0, "1 2"), single(3, 4, 0), api.Ratio{Num: 5, Den: 9}},                                                   // 1/9 and 4/9
		{record(0, "1"), single(2, 2, 1), api.Ratio{Num: 1, Den: 4}},                                                     // an imaginary part
		{record(3, "1"), tide.Tide{Constituents: letters("Q"), Amplitudes: gs(0, 1), Den: 1}, api.Ratio{Num: 0, Den: 1}}, // i times -i
		{record(5, ""), single(7, 1, 1), api.Ratio{Num: 0, Den: 1}},
		{record(5, "- -"), single(4096, 1<<22-1, -1<<22), api.Ratio{Num: 0, Den: 1}},
		{record(0, "1024"), single(1, -1<<22, 1<<22), api.Ratio{Num: 4195328*4195328 + 1<<44, Den: 1}},
	} {
		x, e := tide.Residual(row.r, row.t)
		want(t, "Residual", []any{x, e}, []any{row.want, api.OK})
	}
	for _, l := range []string{"ZHQR", "QRZ", "S"} {
		great := tide.Tide{Constituents: letters(l), Amplitudes: gs(-1<<22, 1<<22, -1<<22, 1<<22, -1<<22, 1<<22, -1<<22, 1<<22)[:len(l)], Den: 4095}
		rec := record(0, strings.Repeat("1024 -1024 ", 64))
		x, e := tide.Residual(rec, great)
		want(t, "the greatest Residual", []any{x, e}, []any{squares(rec, great), api.OK})
	}
}

func TestResidualErrors(t *testing.T) {
	for _, bad := range badTides() {
		x, e := tide.Residual(g(), bad.t)
		wantError(t, "Residual", x, e, bad.e)
		for wanted, r := range badRecords() {
			x, e := tide.Residual(r, bad.t)
			wantError(t, "Residual", x, e, wanted)
		}
	}
	for _, large := range largeTides() {
		x, e := tide.Residual(g(), large)
		wantError(t, "Residual", x, e, api.ErrLarge)
		x, e = tide.Residual(record(0, strings.Repeat("1 ", 129)), large)
		wantError(t, "Residual", x, e, api.ErrMany)
	}
	for _, small := range smallTides() {
		x, e := tide.Residual(g(), small)
		want(t, "Residual", []any{x, e}, []any{squares(g(), small), api.OK})
	}
}

// largeTides returns tides that are not small, smallTides some that are as large as small ones can be.
func largeTides() []tide.Tide {
	const part = tide.MaxSmallPart
	return []tide.Tide{
		single(4097, 1, 0), single(1<<28, 1, 0), single(1, part+1, 0), single(1, -part-1, 0), single(1, 0, part+1), single(1, 0, -part-1), single(1, tide.MaxPart, 0), single(4097, part+1, 0),
		{Constituents: letters("ZH"), Amplitudes: gs(1, 0, 0, part+1), Den: 1},
	}
}

func smallTides() []tide.Tide {
	const part = tide.MaxSmallPart
	return []tide.Tide{
		single(1, 0, 0), single(4096, 1, 0), single(1, part, 0), single(1, -part, 0), single(1, 0, part), single(1, 0, -part), single(4095, part, -part),
		{Constituents: letters("ZH"), Amplitudes: gs(1, 0, part, -part), Den: 4096},
	}
}

func TestResidualsByDefinition(t *testing.T) {
	r := rand.New(rand.NewSource(4))
	for range 300 {
		rec, l := randomCase(r)
		a := randomTide(r, l, 1+r.Intn(4096), 1<<22)
		x, e := tide.Residual(rec, a)
		want(t, "Residual", []any{x, e}, []any{squares(rec, a), api.OK})
	}
}

// randomTide returns a tide in which one amplitude has the part 1, so that there is no common divisor.
func randomTide(r *rand.Rand, l []tide.Constituent, den, part int) tide.Tide {
	out := tide.Tide{Constituents: l, Den: den}
	for range l {
		out.Amplitudes = append(out.Amplitudes, api.Gauss{Re: r.Intn(2*part+1) - part, Im: r.Intn(2*part+1) - part})
	}
	out.Amplitudes[r.Intn(len(l))].Im = 1
	return out
}
