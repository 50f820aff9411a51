package gauge

import (
	"tideway/api"
	"tideway/checks"
)

// Highs returns the high waters of a record.
func Highs(r Record, width int) ([]int, api.Errno) {
	return waters(r, width, func(a, b float32) bool { return a > b })
}

// Lows returns the low waters of a record.
func Lows(r Record, width int) ([]int, api.Errno) {
	return waters(r, width, func(a, b float32) bool { return a < b })
}

// waters returns the indices whose levels beat all before them within the width, and are beaten by none behind them.
func waters(r Record, width int, beats func(a, b float32) bool) ([]int, api.Errno) {
	if e := checks.First(CheckRecord(r), checks.Range(width, 1, api.MaxRecord)); e != api.OK {
		return nil, e
	}
	marked := known(r)
	var out []int
	for i, level := range recorded(r) {
		if leads(r, marked, max(i-width, 0), i, func(x float32) bool { return beats(level, x) }) &&
			leads(r, marked, i+1, min(i+width+1, len(marked)), func(x float32) bool { return !beats(x, level) }) {
			out = append(out, i)
		}
	}
	return out, api.OK
}

// leads reports whether all recorded levels of the indices from from on, before to, are as they should be.
func leads(r Record, marked []bool, from, to int, should func(x float32) bool) bool {
	for i := from; i < to; i++ {
		if marked[i] && !should(r.Levels[i]) {
			return false
		}
	}
	return true
}

// Above returns the spells above a level.
func Above(r Record, level float32) ([]api.Span, api.Errno) {
	if e := checks.First(CheckRecord(r), CheckLevel(level)); e != api.OK {
		return nil, e
	}
	marked := make([]bool, len(r.Levels))
	for i, x := range recorded(r) {
		marked[i] = x > level
	}
	return stretches(marked), api.OK
}
