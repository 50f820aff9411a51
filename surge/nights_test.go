package surge_test

import (
	"math"
	"math/rand"
	"slices"
	"testing"

	"tideway/api"
	"tideway/surge"
)

// P3.4

func night(forecast, observed []int) surge.Night {
	return surge.Night{Forecast: forecast, Observed: observed}
}

// two are the nights of example 4.
func two() []surge.Night {
	return []surge.Night{night([]int{10, 12, 9}, []int{11, 12, 7}), night([]int{4, 4}, []int{4, 6})}
}

// badNight is nights with their first error.
type badNight struct {
	l []surge.Night
	e api.Errno
}

func badNights() []badNight {
	one, high := []int{1}, []int{1<<20 + 1}
	out := []badNight{
		{nil, api.ErrEmpty}, {make([]surge.Night, 65), api.ErrMany}, {slices.Repeat(two()[:1], 65), api.ErrMany},
		{[]surge.Night{{}}, api.ErrEmpty}, {[]surge.Night{night(nil, high)}, api.ErrEmpty}, {[]surge.Night{night(nil, make([]int, 97))}, api.ErrEmpty}, {[]surge.Night{night(one, one), {}, night(one, nil)}, api.ErrEmpty},
		{[]surge.Night{night(make([]int, 97), high)}, api.ErrMany}, {[]surge.Night{night(make([]int, 97), make([]int, 97))}, api.ErrMany}, {[]surge.Night{night(one, one), night(make([]int, 97), one), {}}, api.ErrMany},
		{[]surge.Night{night(high, nil)}, api.ErrShape}, {[]surge.Night{night(high, []int{1, 2})}, api.ErrShape}, {[]surge.Night{night(make([]int, 96), make([]int, 97))}, api.ErrShape}, {[]surge.Night{night(one, nil), {}}, api.ErrShape},
		{[]surge.Night{night(high, one), {}}, api.ErrRange}, {[]surge.Night{night(one, high), {}}, api.ErrRange},
	}
	for _, n := range []int{math.MinInt, -1<<20 - 1, 1<<20 + 1, math.MaxInt} {
		out = append(out,
			badNight{[]surge.Night{night([]int{0, n}, []int{0, 0})}, api.ErrRange},
			badNight{[]surge.Night{night(one, one), night([]int{0, 0}, []int{0, n})}, api.ErrRange},
			badNight{[]surge.Night{night([]int{n}, []int{n})}, api.ErrRange},
		)
	}
	return out
}

// badInterval is an interval with its first error.
type badInterval struct {
	x api.Interval
	e api.Errno
}

func badIntervals() []badInterval {
	out := []badInterval{{api.Interval{Low: 1, High: 0}, api.ErrOrder}, {api.Interval{Low: 1 << 20, High: -1 << 20}, api.ErrOrder}, {api.Interval{Low: -4, High: -5}, api.ErrOrder}}
	for _, n := range []int{math.MinInt, -1<<20 - 1, 1<<20 + 1, math.MaxInt} {
		out = append(out, badInterval{api.Interval{Low: n, High: 0}, api.ErrRange}, badInterval{api.Interval{Low: 0, High: n}, api.ErrRange}, badInterval{api.Interval{Low: n, High: n}, api.ErrRange})
	}
	return out
}

func TestCheckNights(t *testing.T) {
	const most = 1 << 20
	long := make([]int, 96)
	for _, l := range [][]surge.Night{
		two(), slices.Repeat(two(), 32), {night(long, long)}, {night([]int{most, -most}, []int{-most, most})},
	} {
		want(t, "CheckNights", surge.CheckNights(l), api.OK)
	}
	for _, bad := range badNights() {
		want(t, "CheckNights", surge.CheckNights(bad.l), bad.e)
	}
}

func TestLearn(t *testing.T) {
	const most = 1 << 20
	for _, row := range []struct {
		l         []surge.Night
		low, high int
	}{
		{two(), -2, 2}, {two()[1:], 0, 2}, {two()[:1], -2, 1}, // example 4
		{[]surge.Night{night([]int{5}, []int{9})}, 4, 4}, {[]surge.Night{night([]int{9, 9}, []int{5, 2})}, -7, -4},
		{[]surge.Night{night([]int{0}, []int{1}), night([]int{0}, []int{3}), night([]int{0}, []int{2})}, 1, 3},
		{[]surge.Night{night([]int{most, -most}, []int{-most, most})}, -2 * most, 2 * most},
	} {
		x, e := surge.Learn(row.l)
		want(t, "Learn", []any{x, e}, []any{api.Interval{Low: row.low, High: row.high}, api.OK})
	}
	for _, bad := range badNights() {
		x, e := surge.Learn(bad.l)
		wantError(t, "Learn", x, e, bad.e)
	}
}

func TestVerify(t *testing.T) {
	const most = 1 << 20
	far := []surge.Night{night([]int{most}, []int{-most}), night([]int{most}, []int{0}), night([]int{-most}, []int{0}), night([]int{-most}, []int{most})}
	for _, row := range []struct {
		l         []surge.Night
		low, high int
		want      []int
	}{
		{two(), 0, 2, []int{0}}, {two(), -2, 2, nil}, // example 4
		{two(), -2, 1, []int{1}}, {two(), -1, 2, []int{0}}, {two(), -1, 1, []int{0, 1}}, {two(), 0, 0, []int{0, 1}}, {two(), -9, 9, nil}, {two(), 5, 9, []int{0, 1}},
		{slices.Concat(two(), two(), two()), -2, 1, []int{1, 3, 5}},
		{[]surge.Night{night([]int{0, 0, 0}, []int{0, 3, 0})}, 0, 2, []int{0}}, {[]surge.Night{night([]int{0, 0, 0}, []int{0, -3, 0})}, -2, 0, []int{0}},
		{far, -most, most, []int{0, 3}}, {far, -most, most - 1, []int{0, 2, 3}}, {far, 1 - most, most, []int{0, 1, 3}},
	} {
		out, e := surge.Verify(row.l, api.Interval{Low: row.low, High: row.high})
		want(t, "Verify", []any{out, e}, []any{row.want, api.OK})
	}
	for _, x := range badIntervals() {
		out, e := surge.Verify(two(), x.x)
		wantError(t, "Verify", out, e, x.e)
		for _, bad := range badNights() {
			out, e := surge.Verify(bad.l, x.x)
			wantError(t, "Verify", out, e, bad.e)
		}
	}
}

func TestNightsByDefinition(t *testing.T) {
	r := rand.New(rand.NewSource(25))
	for range 500 {
		l := randomNights(r, 4)
		low, high := 100, -100
		bounds := api.Interval{Low: r.Intn(9) - 8, High: r.Intn(9)}
		var outside []int
		for i, n := range l {
			is := false
			for k := range n.Forecast {
				deviation := n.Observed[k] - n.Forecast[k]
				low, high = min(low, deviation), max(high, deviation)
				is = is || deviation < bounds.Low || deviation > bounds.High
			}
			if is {
				outside = append(outside, i)
			}
		}
		x, e := surge.Learn(l)
		want(t, "Learn", []any{x, e}, []any{api.Interval{Low: low, High: high}, api.OK})
		out, e := surge.Verify(l, bounds)
		want(t, "Verify", []any{out, e}, []any{outside, api.OK})
	}
}
