package tide_test

import (
	"math/big"
	"math/rand"
	"testing"

	"tideway/api"
	"tideway/gauge"
	"tideway/tide"
)

// P2.6, and P2 and P3 of DOC.md. Everything here is drawn from generators with fixed seeds.

func TestDependentOrNot(t *testing.T) {
	r := rand.New(rand.NewSource(11))
	dependent := 0
	for range 600 {
		rec, l := randomCase(r)
		v, e := tide.Kernel(rec, l)
		det, _ := tide.Determinant(rec, l)
		rank, _ := tide.Rank(rec, l)
		_, singular := tide.Analyse(rec, l)
		if e == api.OK {
			dependent++
			want(t, "the proof", tide.CheckKernel(rec, l, v), api.OK)
			want(t, "determinant and analysis", []any{det, singular, rank < len(l)}, []any{0, api.ErrSingular, true})
		} else {
			want(t, "determinant and analysis", []any{e, det > 0, singular, rank}, []any{api.ErrNone, true, api.OK, len(l)})
		}
		alike, _ := tide.Alike(rec, l)
		for _, pair := range alike {
			both := []tide.Constituent{l[pair[0]], l[pair[1]]}
			v, e := tide.Kernel(rec, both)
			want(t, "alike ones are dependent", []api.Errno{e, tide.CheckKernel(rec, both, v)}, []api.Errno{api.OK, api.OK})
		}
	}
	if dependent < 150 || dependent > 500 {
		t.Errorf("%d of 600 cases are dependent", dependent)
	}
}

// rat returns a ratio as a number that can be compared.
func rat(x api.Ratio) *big.Rat {
	return big.NewRat(int64(x.Num), int64(x.Den))
}

func TestAnalysesAreLeast(t *testing.T) {
	r := rand.New(rand.NewSource(12))
	small := 0
	for range 600 {
		rec, l := randomCase(r)
		a, e := tide.Analyse(rec, l)
		if e != api.OK {
			continue
		}
		least, _ := tide.Least(rec, l)
		want(t, "the analysis is a tide", tide.CheckTide(a), api.OK)
		if own, e := tide.Residual(rec, a); e == api.OK {
			small++
			want(t, "Least", least, own)
		}
		for range 5 {
			other := randomTide(r, l, 1+r.Intn(64), 1<<uint(4+r.Intn(12)))
			x, e := tide.Residual(rec, other)
			want(t, "Residual of another tide", e, api.OK)
			if rat(x).Cmp(rat(least)) <= 0 && differs(a, other) {
				t.Errorf("the residual %v of %v is not above the least one %v", x, other, least)
			}
		}
		for i := range a.Amplitudes {
			near := tide.Tide{Constituents: l, Amplitudes: append([]api.Gauss{}, a.Amplitudes...), Den: a.Den}
			near.Amplitudes[i].Re++
			if x, e := tide.Residual(rec, near); e == api.OK && rat(x).Cmp(rat(least)) <= 0 {
				t.Errorf("the residual %v of a neighbour is not above the least one %v", x, least)
			}
		}
	}
	if small < 100 {
		t.Errorf("only %d analyses are small", small)
	}
}

// differs reports whether two tides with the same constituents are not the same.
func differs(a, b tide.Tide) bool {
	for i, x := range a.Amplitudes {
		if y := b.Amplitudes[i]; x.Re*b.Den != y.Re*a.Den || x.Im*b.Den != y.Im*a.Den {
			return true
		}
	}
	return false
}

func TestResidualsAreAtRightAngles(t *testing.T) {
	r := rand.New(rand.NewSource(13))
	for range 600 {
		rec, l := randomCase(r)
		a, e := tide.Analyse(rec, l)
		if e != api.OK {
			continue
		}
		ticks, levels := observed(rec)
		for _, c := range l {
			part := complex128(0)
			for i, tick := range ticks {
				left := complex(float64(levels[i]*a.Den), 0)
				for j, d := range l {
					left -= complex(float64(a.Amplitudes[j].Re), float64(a.Amplitudes[j].Im)) * character(d, tick)
				}
				part += conj(character(c, tick)) * left
			}
			want(t, "the part in the direction of a constituent", part == 0, true)
		}
	}
}

// realTide returns a tide of which all values are integers from -1024 to 1024: pairs of constituents with conjugate amplitudes.
func realTide(r *rand.Rand) tide.Tide {
	length := 1 + r.Intn(4)
	re, im := r.Intn(401)-200, r.Intn(401)-200
	return tide.Tide{
		Constituents: []tide.Constituent{one("a", length, 1), one("b", length, 3), one("c", 1+r.Intn(3), 2*r.Intn(2)), one("d", 4, 2)},
		Amplitudes:   gs(re, im, re, -im, r.Intn(401)-200, 0, r.Intn(401)-200, 0),
		Den:          1,
	}
}

func TestPredictedIsAnalysed(t *testing.T) {
	r := rand.New(rand.NewSource(14))
	analysed := 0
	for range 300 {
		x := realTide(r)
		from, n := r.Intn(90000), 1+r.Intn(128)
		levels, e := tide.Levels(x, from, n)
		want(t, "Levels", e, api.OK)
		rec := gauge.Record{Name: "a", Start: from, Levels: levels}
		if hole := r.Intn(n); r.Intn(2) == 0 {
			rec.Levels[hole] = 0
			rec.Gaps = []api.Span{{From: hole, To: hole + 1}}
		}
		a, e := tide.Analyse(rec, x.Constituents)
		if e != api.OK {
			continue
		}
		analysed++
		want(t, "the analysis of what was predicted", a, x)
		least, _ := tide.Least(rec, x.Constituents)
		want(t, "its residual", least, api.Ratio{Num: 0, Den: 1})
	}
	if analysed < 100 {
		t.Errorf("only %d tides are analysed", analysed)
	}
}

func TestMoreTicksNeverLowerTheRank(t *testing.T) {
	r := rand.New(rand.NewSource(15))
	for range 200 {
		rec, l := randomCase(r)
		before := 0
		for n := range len(rec.Levels) + 1 {
			part := gauge.Record{Name: "a", Start: rec.Start, Levels: rec.Levels[:n]}
			for _, s := range rec.Gaps {
				if s.From < n {
					part.Gaps = append(part.Gaps, api.Span{From: s.From, To: min(s.To, n)})
				}
			}
			rank, e := tide.Rank(part, l)
			want(t, "Rank", []any{e, rank >= before, rank <= len(l)}, []any{api.OK, true, true})
			before = rank
		}
	}
}

func TestTidesComeBack(t *testing.T) {
	r := rand.New(rand.NewSource(16))
	for range 300 {
		x := randomTide(r, randomConstituents(r, 96), 1+r.Intn(1<<28), tide.MaxPart)
		s, e := tide.Print(x)
		want(t, "Print", e, api.OK)
		y, i, e := tide.Parse(s)
		want(t, "Parse", []any{y, i, e}, []any{x, 0, api.OK})
	}
}

func TestSumsAddValues(t *testing.T) {
	r := rand.New(rand.NewSource(17))
	added := 0
	for range 300 {
		a := randomTide(r, randomConstituents(r, 2), 1+r.Intn(4096), 1<<22)
		b := randomTide(r, randomConstituents(r, 2), 1+r.Intn(4096), 1<<22)
		for i := range b.Constituents {
			b.Constituents[i].Name += "_b"
		}
		sum, e := tide.Sum(a, b)
		if e != api.OK {
			want(t, "Sum", e, api.ErrMany)
			continue
		}
		added++
		want(t, "the sum is a tide", tide.CheckTide(sum), api.OK)
		x, _ := tide.Predict(a, 5, 8)
		y, _ := tide.Predict(b, 5, 8)
		z, _ := tide.Predict(sum, 5, 8)
		for i := range z {
			want(t, "a real part", z[i].Re*(a.Den*b.Den/sum.Den), x[i].Re*b.Den+y[i].Re*a.Den)
			want(t, "an imaginary part", z[i].Im*(a.Den*b.Den/sum.Den), x[i].Im*b.Den+y[i].Im*a.Den)
		}
	}
	if added < 100 {
		t.Errorf("only %d tides are added", added)
	}
}

func TestAnalysesOfCleanedRecordsAndVotes(t *testing.T) {
	r := rand.New(rand.NewSource(18))
	rules := []gauge.Rule{{Kind: "range", A: -900, B: 900}, {Kind: "jump", A: 1200}}
	for range 100 {
		n, l := r.Intn(60), randomConstituents(r, 4)
		gauges := [3]gauge.Record{randomRecord(r, n, 5, 1024), randomRecord(r, n, 5, 1024), randomRecord(r, n, 5, 1024)}
		gauges[1].Start, gauges[2].Start = gauges[0].Start, gauges[0].Start
		cleaned, _ := gauge.Clean(gauges[0], rules)
		again, _ := gauge.Clean(cleaned, rules)
		vote, _, _ := gauge.Vote(gauges, 500)
		other, _, _ := gauge.Vote([3]gauge.Record{gauges[2], gauges[0], gauges[1]}, 500)
		for _, pair := range [][2]gauge.Record{{cleaned, again}, {vote, other}} {
			a, e := tide.Analyse(pair[0], l)
			b, f := tide.Analyse(pair[1], l)
			want(t, "Analyse", []any{a, e}, []any{b, f})
			want(t, "Analyse by definition", a, analysisOf(pair[0], l))
		}
	}
}
