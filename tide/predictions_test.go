package tide_test

import (
	"math"
	"math/rand"
	"slices"
	"testing"

	"tideway/api"
	"tideway/tide"
)

// P2.4

func TestCheckTide(t *testing.T) {
	const den, part = tide.MaxDen, tide.MaxPart
	for _, x := range []tide.Tide{
		single(1, 0, 0), single(1, 5, 0), single(2, 3, 0), single(2, 0, -1), single(2, 4, 3), single(6, 3, 2), single(6, -3, 4),
		single(den, 1, 0), single(den, part, 1), single(den-1, part, part), single(1, -part, -part), single(1, 0, part), single(1, part, 0),
		{Constituents: letters("ZHQR"), Amplitudes: gs(6, 6, 6, 6, 6, 6, 6, 1), Den: 6},
		{Constituents: letters("ZHQ"), Amplitudes: gs(6, 10, 15, 30, 0, 0), Den: 30},
	} {
		want(t, "CheckTide", tide.CheckTide(x), api.OK)
	}
	for _, bad := range badTides() {
		want(t, "CheckTide", tide.CheckTide(bad.t), bad.e)
	}
	for _, x := range []tide.Tide{single(math.MinInt, math.MinInt, math.MinInt), single(math.MaxInt, 1, 0), single(1, math.MinInt, 0), single(1, 0, math.MaxInt)} {
		want(t, "CheckTide", tide.CheckTide(x), api.ErrRange)
	}
}

func TestPredict(t *testing.T) {
	both := tide.Tide{Constituents: letters("QR"), Amplitudes: gs(8, 0, 8, 0), Den: 1}
	const part = tide.MaxPart
	for _, row := range []struct {
		t       tide.Tide
		from, n int
		want    []api.Gauss
	}{
		{both, 0, 5, gs(16, 0, 0, 0, -16, 0, 0, 0, 16, 0)}, // example 1
		{both, 2, 2, gs(-16, 0, 0, 0)},
		{both, 3, 0, nil},
		{single(2, 3, -1), 0, 2, gs(3, -1, 3, -1)}, // times the denominator
		{tide.Tide{Constituents: letters("Q"), Amplitudes: gs(2, 5), Den: 3}, 0, 4, gs(2, 5, -5, 2, -2, -5, 5, -2)},
		{tide.Tide{Constituents: letters("SZ"), Amplitudes: gs(1, 0, 0, 2), Den: 1}, 1, 4, gs(1, 2, -1, 2, -1, 2, 1, 2)},
		{tide.Tide{Constituents: letters("ZHQR"), Amplitudes: gs(part, 0, part, 0, part, 0, part, 0), Den: 1}, 0, 2, gs(4*part, 0, 0, 0)},
		{tide.Tide{Constituents: letters("Q"), Amplitudes: gs(1, 0), Den: 1}, 100000, 0, nil},
		{tide.Tide{Constituents: letters("Q"), Amplitudes: gs(1, 0), Den: 1}, 99999, 1, gs(0, -1)},
		{tide.Tide{Constituents: letters("Q"), Amplitudes: gs(1, 0), Den: 1}, 0, 0, nil},
	} {
		v, e := tide.Predict(row.t, row.from, row.n)
		want(t, "Predict", []any{v, e}, []any{row.want, api.OK})
	}
	v, e := tide.Predict(both, 95904, 4096)
	want(t, "Predict as many as possible", []any{len(v), e}, []any{4096, api.OK})
}

func TestPredictionErrors(t *testing.T) {
	high := single(1, 1025, 0)
	for _, row := range []struct{ from, n int }{
		{-1, 1}, {100001, 0}, {100001, -1}, {0, -1}, {0, 4097}, {100000, 1}, {99999, 2}, {95905, 4096}, {math.MinInt, 0}, {math.MaxInt, 1}, {5, math.MaxInt}, {5, math.MinInt}, {math.MaxInt, math.MaxInt}, {math.MinInt, math.MinInt},
	} {
		v, e := tide.Predict(high, row.from, row.n)
		wantError(t, "Predict", v, e, api.ErrRange)
		l, e := tide.Levels(high, row.from, row.n)
		wantError(t, "Levels", l, e, api.ErrRange)
	}
	for _, bad := range badTides() {
		for _, from := range []int{0, -1} {
			v, e := tide.Predict(bad.t, from, -1)
			wantError(t, "Predict", v, e, bad.e)
			l, e := tide.Levels(bad.t, from, -1)
			wantError(t, "Levels", l, e, bad.e)
		}
	}
}

func TestLevels(t *testing.T) {
	for _, row := range []struct {
		den, re, im int
		want        int
	}{
		{2, 3, 0, 2}, // example 4
		{1, 0, 0, 0}, {1, 7, 3, 7}, {1, -7, 0, -7},
		{2, 1, 0, 1}, {2, -1, 0, 0}, {2, -3, 0, -1}, {2, 5, 0, 3}, {2, -5, 0, -2}, // the greater one of two
		{3, 1, 0, 0}, {3, 2, 0, 1}, {3, -1, 0, 0}, {3, -2, 0, -1}, {3, 4, 0, 1}, {3, -4, 0, -1}, {3, -5, 0, -2},
		{4, 1, 0, 0}, {4, 3, 0, 1}, {4, -1, 0, 0}, {4, -3, 0, -1}, {4, 6, 1, 2}, {4, -6, 1, -1},
		{2, 3, 100, 2}, {2, 0, -99, 0}, // the real part alone
		{1, 1024, 0, 1024}, {1, -1024, 0, -1024}, {1, 0, 1025, 0},
		{2, 2047, 0, 1024}, {2, -2049, 0, -1024}, {4, 4097, 0, 1024}, {4, -4097, 0, -1024}, {4, -4098, 1, -1024}, // rounded to the greatest one
		{1 << 28, 1<<38 + 1<<27 - 1, 0, 1024}, {1 << 28, -1<<38 - 1<<27 + 1, 0, -1024}, {1 << 28, -1<<38 - 1<<27, 1, -1024},
	} {
		l, e := tide.Levels(single(row.den, row.re, row.im), 7, 2)
		if height := float32(row.want) / 16; e != api.OK || !slices.Equal(l, []float32{height, height}) {
			t.Errorf("Levels of %d/%d: got %v and %d, want %v", row.re, row.den, l, e, height)
		}
	}
	for _, x := range []tide.Tide{
		single(1, 1025, 0), single(1, -1025, 0), single(2, 2049, 0), single(2, -2051, 0), single(4, 4098, 1), single(4, -4099, 0), single(1, tide.MaxPart, 0), single(1, -tide.MaxPart, 0),
		single(1<<28, 1<<38+1<<27, 1), single(1<<28, -1<<38-1<<27-1, 0),
		{Constituents: letters("ZHQR"), Amplitudes: gs(tide.MaxPart, 0, tide.MaxPart, 0, tide.MaxPart, 0, tide.MaxPart-1, 0), Den: 1 << 28},
	} {
		l, e := tide.Levels(x, 8, 1)
		wantError(t, "Levels", l, e, api.ErrLevel)
		l, e = tide.Levels(x, 8, 0)
		want(t, "Levels of no ticks", []any{l, e}, []any{[]float32{}, api.OK})
	}
}

func TestLevelsAtTicks(t *testing.T) {
	both := tide.Tide{Constituents: letters("ZH"), Amplitudes: gs(600, 0, 600, 0), Den: 1}
	l, e := tide.Levels(both, 1, 1)
	if e != api.OK || !slices.Equal(l, []float32{0}) {
		t.Errorf("Levels: got %v and %d", l, e)
	}
	for _, row := range [][2]int{{0, 1}, {1, 2}, {1, 4}} {
		l, e := tide.Levels(both, row[0], row[1])
		wantError(t, "Levels", l, e, api.ErrLevel)
	}
	turning := tide.Tide{Constituents: letters("QR"), Amplitudes: gs(8, 1, 8, -1), Den: 3}
	l, e = tide.Levels(turning, 0, 5) // 16/3, -2/3, -16/3, 2/3, 16/3
	if e != api.OK || !slices.Equal(l, []float32{0.3125, -0.0625, -0.3125, 0.0625, 0.3125}) {
		t.Errorf("Levels: got %v and %d", l, e)
	}
}

func TestPredictionsByDefinition(t *testing.T) {
	r := rand.New(rand.NewSource(5))
	for range 300 {
		a := randomTide(r, randomConstituents(r, 96), 1+r.Intn(1<<28), tide.MaxPart)
		from, n := r.Intn(99000), r.Intn(20)
		v, e := tide.Predict(a, from, n)
		want(t, "Predict", []any{len(v), e}, []any{n, api.OK})
		for i, x := range v {
			sum := complex128(0)
			for j, c := range a.Constituents {
				sum += complex(float64(a.Amplitudes[j].Re), float64(a.Amplitudes[j].Im)) * character(c, from+i)
			}
			want(t, "Predict", x, gauss(sum))
		}
	}
}

func TestTideWaters(t *testing.T) {
	zero := float32(math.Copysign(0, -1))
	for _, row := range []struct {
		l           []float32
		highs, lows []int
	}{
		{[]float32{0, 1, 1, 0, 2, 1}, []int{1, 4}, []int{3}}, // example 5
		{nil, nil, nil}, {[]float32{5}, nil, nil}, {[]float32{1, 2}, nil, nil}, {[]float32{2, 1}, nil, nil},
		{[]float32{1, 2, 1}, []int{1}, nil}, {[]float32{2, 1, 2}, nil, []int{1}},
		{[]float32{1, 2, 2}, nil, nil}, {[]float32{2, 1, 1}, nil, nil}, // none behind that differs
		{[]float32{2, 2, 1}, nil, nil}, {[]float32{1, 1, 2}, nil, nil}, // the one before does not differ
		{[]float32{1, 2, 2, 2, 1}, []int{1}, nil}, {[]float32{2, 1, 1, 1, 2}, nil, []int{1}},
		{[]float32{1, 2, 2, 3, 1}, []int{3}, nil}, {[]float32{3, 2, 2, 1, 3}, nil, []int{3}},
		{[]float32{0, 1, 2, 3}, nil, nil}, {[]float32{3, 2, 1, 0}, nil, nil}, {[]float32{1, 1, 1}, nil, nil},
		{[]float32{-1, zero, 0, zero, -1}, []int{1}, nil}, {[]float32{1, 0, zero, 1}, nil, []int{1}}, {[]float32{zero, 0, -1}, nil, nil},
		{[]float32{64, -64, 64, -64}, []int{2}, []int{1}},
		{[]float32{0, 0.0625, 0, -0.0625, 0}, []int{1}, []int{3}},
	} {
		highs, e := tide.Highs(row.l)
		want(t, "Highs", []any{highs, e}, []any{row.highs, api.OK})
		lows, e := tide.Lows(row.l)
		want(t, "Lows", []any{lows, e}, []any{row.lows, api.OK})
	}
	long := make([]float32, 4096)
	long[1], long[4094] = 1, -1
	highs, e := tide.Highs(long)
	want(t, "Highs of as many as possible", []any{highs, e}, []any{[]int{1}, api.OK})
	lows, e := tide.Lows(long)
	want(t, "Lows of as many as possible", []any{lows, e}, []any{[]int{4094}, api.OK})
}

func TestTideWatersErrors(t *testing.T) {
	nan, inf := float32(math.NaN()), float32(math.Inf(1))
	for what, f := range map[string]func([]float32) ([]int, api.Errno){"Highs": tide.Highs, "Lows": tide.Lows} {
		for _, row := range []struct {
			l []float32
			e api.Errno
		}{
			{make([]float32, 4097), api.ErrMany}, {append(make([]float32, 4096), nan), api.ErrMany},
			{[]float32{nan}, api.ErrForm}, {[]float32{0, 1, 0, inf}, api.ErrForm}, {[]float32{-inf, 65}, api.ErrForm},
			{[]float32{65}, api.ErrRange}, {[]float32{0, -64.0625, 0}, api.ErrRange}, {[]float32{0, 1, 0.03125}, api.ErrRange}, {[]float32{0, 1, 0, 0.1, nan}, api.ErrRange},
		} {
			l, e := f(row.l)
			wantError(t, what, l, e, row.e)
		}
	}
}

func TestWatersByDefinition(t *testing.T) {
	r := rand.New(rand.NewSource(6))
	for range 300 {
		l := make([]float32, r.Intn(30))
		for i := range l {
			l[i] = float32(r.Intn(4)-2) / 16
		}
		var highs, lows []int
		for i := 1; i < len(l); i++ {
			j := i + 1
			for j < len(l) && l[j] == l[i] {
				j++
			}
			if j < len(l) && l[i] > l[i-1] && l[i] > l[j] {
				highs = append(highs, i)
			}
			if j < len(l) && l[i] < l[i-1] && l[i] < l[j] {
				lows = append(lows, i)
			}
		}
		gotHighs, e := tide.Highs(l)
		want(t, "Highs", []any{gotHighs, e}, []any{highs, api.OK})
		gotLows, e := tide.Lows(l)
		want(t, "Lows", []any{gotLows, e}, []any{lows, api.OK})
	}
}
