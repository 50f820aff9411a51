package tide

import (
	"cmp"

	"tideway/api"
	"tideway/checks"
	"tideway/gauge"
)

// Highs returns the high waters of levels.
func Highs(l []float32) ([]int, api.Errno) {
	return waters(l, [2]int{1, 1})
}

// Lows returns the low waters of levels.
func Lows(l []float32) ([]int, api.Errno) {
	return waters(l, [2]int{-1, -1})
}

// waters returns the indices whose levels stand to both sides as wanted.
func waters(l []float32, wanted [2]int) ([]int, api.Errno) {
	if e := checks.First(checks.Most(len(l), api.MaxRecord), checks.Each(l, gauge.CheckLevel)); e != api.OK {
		return nil, e
	}
	var out []int
	for i := range len(l) {
		if sides(l, i) == wanted {
			out = append(out, i)
		}
	}
	return out, api.OK
}

// sides returns whether the level at an index is above (1) or below (-1) the one before it, and the first one behind it that differs: 0 if there is none.
func sides(l []float32, index int) [2]int {
	var out [2]int
	level := l[index]
	if index > 0 {
		out[0] = cmp.Compare(level, l[index-1])
	}
	for _, x := range l[index+1:] {
		if x != level {
			out[1] = cmp.Compare(level, x)
			break
		}
	}
	return out
}
