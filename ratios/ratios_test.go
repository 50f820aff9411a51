package ratios_test

import (
	"math"
	"testing"

	"tideway/api"
	"tideway/ratios"
)

func TestCommonDivisor(t *testing.T) {
	for _, row := range []struct {
		l    []int
		want int
	}{
		{nil, 0}, {[]int{0}, 0}, {[]int{0, 0}, 0}, {[]int{7}, 7}, {[]int{-7}, 7}, {[]int{0, -6}, 6}, {[]int{-6, 0}, 6},
		{[]int{12, 18}, 6}, {[]int{-12, 18}, 6}, {[]int{12, -18}, 6}, {[]int{12, 18, 27}, 3}, {[]int{12, 18, 25}, 1}, {[]int{1 << 43, 3 << 40, 5 << 41}, 1 << 40},
		{[]int{math.MinInt, -1}, 1}, {[]int{-1, math.MinInt}, 1}, {[]int{math.MinInt, 6}, 2},
	} {
		if got := ratios.CommonDivisor(row.l...); got != row.want {
			t.Errorf("CommonDivisor of %v: got %d, want %d", row.l, got, row.want)
		}
	}
}

func TestLowest(t *testing.T) {
	for _, row := range []struct {
		num, den int
		want     api.Ratio
	}{
		{0, 5, api.Ratio{Num: 0, Den: 1}}, {3, 4, api.Ratio{Num: 3, Den: 4}}, {-6, 4, api.Ratio{Num: -3, Den: 2}}, {6, 3, api.Ratio{Num: 2, Den: 1}}, {1 << 55, 1 << 28, api.Ratio{Num: 1 << 27, Den: 1}},
	} {
		if got := ratios.Lowest(row.num, row.den); got != row.want {
			t.Errorf("Lowest of %d and %d: got %v, want %v", row.num, row.den, got, row.want)
		}
	}
}

func TestFloor(t *testing.T) {
	for _, row := range []struct{ num, den, want int }{
		{0, 3, 0}, {2, 3, 0}, {3, 3, 1}, {4, 3, 1}, {-1, 3, -1}, {-2, 3, -1}, {-3, 3, -1}, {-4, 3, -2}, {-7, 1, -7}, {1 << 62, 1 << 31, 1 << 31}, {-1 << 62, 3, -(1<<62)/3 - 1},
	} {
		if got := ratios.Floor(row.num, row.den); got != row.want {
			t.Errorf("Floor of %d and %d: got %d, want %d", row.num, row.den, got, row.want)
		}
	}
}
