package gauge_test

import (
	"math"
	"slices"
	"strings"
	"testing"

	"tideway/api"
	"tideway/gauge"
)

// P1.1

func TestIsName(t *testing.T) {
	for s, is := range map[string]bool{
		"a": true, "Z": true, "hook": true, "a_9": true, "aZ0": true, "Az": true, "zA": true, strings.Repeat("a", 24): true,
		"": false, "9": false, "_": false, "a b": false, "a-b": false, "a.": false, "a\n": false, "ä": false, "aé": false,
		"a\xff": false, "a\x00": false, "[": false, "`": false, "@": false, "{": false, "a/": false, "a:": false, strings.Repeat("a", 25): false,
	} {
		want(t, "IsName "+s, gauge.IsName(s), is)
	}
}

func TestDraw(t *testing.T) {
	for _, row := range []struct {
		key, n int
		e      api.Errno
	}{
		{1, 0, api.OK}, {1, 256, api.OK}, {2147483646, 1, api.OK},
		{0, 1, api.ErrRange}, {-1, 1, api.ErrRange}, {2147483647, 1, api.ErrRange}, {1, -1, api.ErrRange}, {1, 257, api.ErrRange}, {math.MinInt, math.MinInt, api.ErrRange},
	} {
		l, e := gauge.Draw(row.key, row.n)
		want(t, "Draw", e, row.e)
		if e != api.OK {
			want(t, "Draw beside an error", l, []int{})
			continue
		}
		slices.Sort(l)
		for i, x := range l {
			want(t, "sorted permutation", x, i)
		}
		want(t, "length of the permutation", len(l), row.n)
	}
}

func TestDrawByHand(t *testing.T) {
	// The key 1 becomes 742938285, and then 742938285^2 modulo 2147483647 = 1710921057: 742938285 modulo 3 is 0, 1710921057 modulo 2 is 1.
	square := 742938285 * 742938285 % 2147483647
	want(t, "the second number", square, 1710921057)
	l, _ := gauge.Draw(1, 3)
	want(t, "Draw", l, []int{2, 1, 0})
	l, _ = gauge.Draw(2, 2)
	want(t, "Draw", l, []int{1, 0})
	l, _ = gauge.Draw(1, 2)
	want(t, "Draw", l, []int{0, 1})
}

func TestCheckRatio(t *testing.T) {
	for _, row := range []struct {
		num, den int
		e        api.Errno
	}{
		{0, 1, api.OK}, {1, 1, api.OK}, {-3, 4, api.OK}, {999999999, 1, api.OK}, {-999999999, 999999998, api.OK}, {1, 999999999, api.OK},
		{0, 2, api.ErrForm}, {2, 4, api.ErrForm}, {-3, 9, api.ErrForm}, {999999999, 999999999, api.ErrForm},
		{0, 0, api.ErrRange}, {1, -1, api.ErrRange}, {2, -4, api.ErrRange}, {1000000000, 2, api.ErrRange}, {-1000000000, 2, api.ErrRange}, {2, 1000000000, api.ErrRange},
		{math.MinInt, -1, api.ErrRange}, {math.MinInt, 0, api.ErrRange}, {0, math.MinInt, api.ErrRange},
	} {
		want(t, "CheckRatio", gauge.CheckRatio(api.Ratio{Num: row.num, Den: row.den}), row.e)
	}
}

func TestCheckLevel(t *testing.T) {
	minusZero := float32(math.Copysign(0, -1))
	for _, row := range []struct {
		x float32
		e api.Errno
	}{
		{0, api.OK}, {minusZero, api.OK}, {64, api.OK}, {-64, api.OK}, {0.0625, api.OK}, {-63.9375, api.OK},
		{64.0625, api.ErrRange}, {-64.0625, api.ErrRange}, {0.03125, api.ErrRange}, {0.1, api.ErrRange}, {63.999996, api.ErrRange},
		{math.MaxFloat32, api.ErrRange}, {-math.MaxFloat32, api.ErrRange}, {math.SmallestNonzeroFloat32, api.ErrRange},
		{float32(math.NaN()), api.ErrForm}, {float32(math.Inf(1)), api.ErrForm}, {float32(math.Inf(-1)), api.ErrForm},
	} {
		want(t, "CheckLevel", gauge.CheckLevel(row.x), row.e)
	}
}
