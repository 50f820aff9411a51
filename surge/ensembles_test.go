package surge_test

import (
	"math"
	"math/big"
	"math/rand"
	"slices"
	"testing"

	"tideway/api"
	"tideway/surge"
)

// P3.5

func course(weight int, heights ...int) surge.Course {
	return surge.Course{Weight: weight, Heights: heights}
}

// pair is the ensemble of example 5.
func pair() []surge.Course {
	return []surge.Course{course(3, 10, 14), course(1, 12, 9)}
}

func ratio(num, den int) api.Ratio {
	return api.Ratio{Num: num, Den: den}
}

// badEnsemble is courses with their first error.
type badEnsemble struct {
	l []surge.Course
	e api.Errno
}

func badEnsembles() []badEnsemble {
	const high = 1<<20 + 1
	long := make([]int, 97)
	out := []badEnsemble{
		{nil, api.ErrEmpty}, {make([]surge.Course, 17), api.ErrMany}, {slices.Repeat(pair()[:1], 17), api.ErrMany},
		{[]surge.Course{{}}, api.ErrRange}, {[]surge.Course{course(1)}, api.ErrEmpty}, {[]surge.Course{course(1), course(0)}, api.ErrEmpty}, {[]surge.Course{course(1, 2), course(1), course(0)}, api.ErrEmpty},
		{[]surge.Course{course(1, long...), course(0)}, api.ErrMany}, {[]surge.Course{course(1, high), course(0)}, api.ErrRange}, {[]surge.Course{course(1, 2), course(1, long...)}, api.ErrMany},
		{[]surge.Course{course(1, 2), course(1, high, 3)}, api.ErrShape}, {[]surge.Course{course(1, 2, 3), course(1, high)}, api.ErrShape}, {[]surge.Course{course(1, 2), course(1, 2), course(1, 2, 3), course(0)}, api.ErrShape},
		{append(pair(), course(1, 2, high), course(1)), api.ErrRange},
	}
	for _, weight := range []int{math.MinInt, -1, 0, 1001, math.MaxInt} {
		out = append(out, badEnsemble{[]surge.Course{course(weight)}, api.ErrRange}, badEnsemble{append(pair(), course(weight, long...), course(1)), api.ErrRange})
	}
	for _, n := range []int{math.MinInt, -high, high, math.MaxInt} {
		out = append(out, badEnsemble{[]surge.Course{course(1, n)}, api.ErrRange}, badEnsemble{append(pair(), course(1, 0, n)), api.ErrRange})
	}
	return out
}

func TestCheckEnsemble(t *testing.T) {
	const most = 1 << 20
	for _, l := range [][]surge.Course{
		pair(), slices.Repeat(pair(), 8), {course(1000, most, -most)}, {course(1, make([]int, 96)...)},
	} {
		want(t, "CheckEnsemble", surge.CheckEnsemble(l), api.OK)
	}
	for _, bad := range badEnsembles() {
		want(t, "CheckEnsemble", surge.CheckEnsemble(bad.l), bad.e)
	}
}

func TestExceed(t *testing.T) {
	const most = 1 << 20
	three := []surge.Course{course(2, 1, 5, 1), course(3, 4, 1, 1), course(4, 1, 1, 5)}
	for _, row := range []struct {
		l               []surge.Course
		limit, from, to int
		want            api.Ratio
	}{
		{pair(), 12, 0, 2, ratio(3, 4)}, {pair(), 12, 0, 1, ratio(0, 1)}, // example 5
		{pair(), 9, 0, 2, ratio(1, 1)}, {pair(), 10, 0, 1, ratio(1, 4)}, {pair(), 9, 1, 2, ratio(3, 4)}, {pair(), 8, 1, 2, ratio(1, 1)}, {pair(), 14, 0, 2, ratio(0, 1)}, {pair(), 13, 0, 2, ratio(3, 4)}, {pair(), 11, 0, 2, ratio(1, 1)},
		{pair(), -most, 0, 0, ratio(0, 1)}, {pair(), -most, 1, 1, ratio(0, 1)}, {pair(), -most, 2, 2, ratio(0, 1)}, {pair(), -most, 0, 2, ratio(1, 1)}, {pair(), most, 0, 2, ratio(0, 1)},
		{three, 3, 0, 3, ratio(1, 1)}, {three, 4, 0, 3, ratio(2, 3)}, {three, 3, 0, 2, ratio(5, 9)}, {three, 3, 1, 3, ratio(2, 3)}, {three, 3, 1, 2, ratio(2, 9)}, {three, 3, 0, 1, ratio(1, 3)}, {three, 3, 2, 3, ratio(4, 9)},
		{[]surge.Course{course(1, most), course(1000, -most)}, most - 1, 0, 1, ratio(1, 1001)},
	} {
		x, e := surge.Exceed(row.l, row.limit, api.Span{From: row.from, To: row.to})
		want(t, "Exceed", []any{x, e}, []any{row.want, api.OK})
	}
}

func TestExceedErrors(t *testing.T) {
	limits := []int{math.MinInt, -1<<20 - 1, 1<<20 + 1, math.MaxInt}
	spans := []api.Span{{From: -1, To: 1}, {From: 2, To: 1}, {From: 0, To: 3}, {From: 3, To: 3}, {From: 1, To: 0}, {From: -1, To: -1}, {From: math.MinInt, To: math.MaxInt}, {From: 0, To: math.MaxInt}, {From: math.MinInt, To: 0}, {From: math.MaxInt, To: math.MinInt}}
	for _, s := range spans {
		x, e := surge.Exceed(pair(), 0, s)
		wantError(t, "Exceed", x, e, api.ErrSpan)
		for _, limit := range limits {
			x, e := surge.Exceed(pair(), limit, s)
			wantError(t, "Exceed", x, e, api.ErrRange)
		}
		for _, bad := range badEnsembles() {
			x, e := surge.Exceed(bad.l, limits[0], s)
			wantError(t, "Exceed", x, e, bad.e)
		}
	}
	for _, limit := range limits {
		x, e := surge.Exceed(pair(), limit, api.Span{From: 0, To: 2})
		wantError(t, "Exceed", x, e, api.ErrRange)
	}
}

func TestQuantile(t *testing.T) {
	const most = 1 << 20
	ties := []surge.Course{course(1, 7), course(2, -3), course(1, 7), course(4, 9)}
	for _, row := range []struct {
		l     []surge.Course
		index int
		share api.Ratio
		want  int
	}{
		{pair(), 0, ratio(1, 2), 10}, {pair(), 0, ratio(4, 5), 12}, // example 5
		{pair(), 0, ratio(3, 4), 10}, {pair(), 0, ratio(750000001, 999999999), 12}, {pair(), 0, ratio(749999999, 999999999), 10}, {pair(), 0, ratio(0, 1), 10}, {pair(), 0, ratio(1, 1), 12},
		{pair(), 1, ratio(0, 1), 9}, {pair(), 1, ratio(1, 4), 9}, {pair(), 1, ratio(250000000, 999999999), 14}, {pair(), 1, ratio(1, 3), 14}, {pair(), 1, ratio(1, 1), 14}, {pair(), 1, ratio(1, 999999999), 9},
		{ties, 0, ratio(0, 1), -3}, {ties, 0, ratio(1, 4), -3}, {ties, 0, ratio(2, 7), 7}, {ties, 0, ratio(1, 2), 7}, {ties, 0, ratio(3, 8), 7}, {ties, 0, ratio(5, 9), 9}, {ties, 0, ratio(1, 1), 9},
		{[]surge.Course{course(1, most)}, 0, ratio(0, 1), most}, {[]surge.Course{course(1000, -most), course(1, most)}, 0, ratio(1000, 1001), -most}, {[]surge.Course{course(1000, -most), course(1, most)}, 0, ratio(1, 1), most},
	} {
		x, e := surge.Quantile(row.l, row.index, row.share)
		want(t, "Quantile", []any{x, e}, []any{row.want, api.OK})
	}
}

func TestQuantileErrors(t *testing.T) {
	for _, row := range []struct {
		index int
		share api.Ratio
		e     api.Errno
	}{
		{-1, ratio(2, 4), api.ErrUnknown}, {2, ratio(5, 0), api.ErrUnknown}, {math.MinInt, ratio(0, 1), api.ErrUnknown}, {math.MaxInt, ratio(1, 2), api.ErrUnknown},
		{0, ratio(1, 0), api.ErrRange}, {0, ratio(0, 0), api.ErrRange}, {0, ratio(1, -1), api.ErrRange}, {0, ratio(1, 1000000000), api.ErrRange}, {0, ratio(1000000000, 1), api.ErrRange}, {1, ratio(math.MinInt, 1), api.ErrRange}, {1, ratio(1, math.MaxInt), api.ErrRange},
		{0, ratio(2, 4), api.ErrForm}, {0, ratio(0, 2), api.ErrForm}, {1, ratio(6, 4), api.ErrForm}, {1, ratio(-2, 2), api.ErrForm},
		{0, ratio(-1, 2), api.ErrRange}, {0, ratio(3, 2), api.ErrRange}, {1, ratio(2, 1), api.ErrRange}, {1, ratio(-1, 999999999), api.ErrRange}, {1, ratio(999999999, 999999998), api.ErrRange},
	} {
		x, e := surge.Quantile(pair(), row.index, row.share)
		wantError(t, "Quantile", x, e, row.e)
		for _, bad := range badEnsembles() {
			x, e := surge.Quantile(bad.l, row.index, row.share)
			wantError(t, "Quantile", x, e, bad.e)
		}
	}
}

func TestEnclose(t *testing.T) {
	const most = 1 << 20
	for _, row := range []struct {
		l         []surge.Course
		low, high int
		want      []api.Interval
	}{
		{pair(), -2, 2, []api.Interval{{Low: 8, High: 14}, {Low: 7, High: 16}}}, // example 5
		{pair(), 0, 0, []api.Interval{{Low: 10, High: 12}, {Low: 9, High: 14}}}, {pair(), 3, 5, []api.Interval{{Low: 13, High: 17}, {Low: 12, High: 19}}}, {pair(), -5, -5, []api.Interval{{Low: 5, High: 7}, {Low: 4, High: 9}}},
		{pair()[:1], -1, 2, []api.Interval{{Low: 9, High: 12}, {Low: 13, High: 16}}}, {[]surge.Course{course(1, 5), course(9, 3), course(1, 4)}, 0, 0, []api.Interval{{Low: 3, High: 5}}},
		{[]surge.Course{course(1, most), course(1, -most)}, -most, most, []api.Interval{{Low: -2 * most, High: 2 * most}}},
	} {
		l, e := surge.Enclose(row.l, api.Interval{Low: row.low, High: row.high})
		want(t, "Enclose", []any{l, e}, []any{row.want, api.OK})
	}
	for _, x := range badIntervals() {
		l, e := surge.Enclose(pair(), x.x)
		wantError(t, "Enclose", l, e, x.e)
		for _, bad := range badEnsembles() {
			l, e := surge.Enclose(bad.l, x.x)
			wantError(t, "Enclose", l, e, bad.e)
		}
	}
}

func TestEnsemblesByDefinition(t *testing.T) {
	r := rand.New(rand.NewSource(26))
	for range 500 {
		n := 1 + r.Intn(4)
		l := randomEnsemble(r, n, 6)
		limit, from := r.Intn(15)-7, r.Intn(n+1)
		s := api.Span{From: from, To: from + r.Intn(n-from+1)}
		x, e := surge.Exceed(l, limit, s)
		want(t, "Exceed", []any{x, e}, []any{shareOf(l, func(c surge.Course) bool { return s.From < s.To && slices.Max(c.Heights[s.From:s.To]) > limit }), api.OK})
		index, share := r.Intn(n), shareOf(randomEnsemble(r, 1, 6), func(c surge.Course) bool { return c.Heights[0] > 0 })
		height, e := surge.Quantile(l, index, share)
		want(t, "Quantile", []any{height, e}, []any{quantileOf(l, index, share), api.OK})
	}
}

// shareOf returns the share of the courses that are chosen.
func shareOf(l []surge.Course, chosen func(c surge.Course) bool) api.Ratio {
	part, all := int64(0), int64(0)
	for _, c := range l {
		all += int64(c.Weight)
		if chosen(c) {
			part += int64(c.Weight)
		}
	}
	share := big.NewRat(part, all)
	return ratio(int(share.Num().Int64()), int(share.Denom().Int64()))
}

// rat returns a ratio as a number that can be compared.
func rat(x api.Ratio) *big.Rat {
	return big.NewRat(int64(x.Num), int64(x.Den))
}

// quantileOf goes up from the least height until the share is reached.
func quantileOf(l []surge.Course, index int, share api.Ratio) int {
	var heights []int
	for _, c := range l {
		heights = append(heights, c.Heights[index])
	}
	for height := slices.Min(heights); ; height++ {
		below := shareOf(l, func(c surge.Course) bool { return c.Heights[index] <= height })
		if slices.Contains(heights, height) && rat(below).Cmp(rat(share)) >= 0 {
			return height
		}
	}
}
