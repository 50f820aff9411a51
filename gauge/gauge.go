// Package gauge is layer 1: see shared/doc/01-gauge.md.
package gauge

import (
	"math"

	"tideway/api"
	"tideway/checks"
	"tideway/ratios"
	"tideway/texts"
)

// Limits of spans and rules.
const (
	MaxSpans = 2048
	MaxRules = 8
	Unit     = 16
)

// maxHeight is the greatest level in sixteenths, maxStep the greatest difference of two levels.
const (
	maxHeight = api.MaxLevel * Unit
	maxStep   = 2 * maxHeight
)

// Record is levels for successive ticks, and the spans without a record.
type Record struct {
	Name   string
	Start  int
	Levels []float32
	Gaps   []api.Span
}

// Rule is a rule that removes levels.
type Rule struct {
	Kind string
	A    int
	B    int
}

// Statistics is how many levels are recorded, their sum in sixteenths, the least and the greatest one.
type Statistics struct {
	Count int
	Sum   int
	Least float32
	Most  float32
}

// IsName reports whether a string is a name.
func IsName(s string) bool {
	return texts.IsName(s)
}

// Draw returns the permutation of n elements by a key.
func Draw(key, n int) ([]int, api.Errno) {
	const factor, modulus = 742938285, 2147483647
	if e := checks.First(checks.Range(key, 1, modulus-1), checks.Range(n, 0, api.MaxList)); e != api.OK {
		return nil, e
	}
	out := make([]int, n)
	for i := range n {
		out[i] = i
	}
	x := key
	for i := n - 1; i >= 1; i-- {
		x = factor * x % modulus
		j := x % (i + 1)
		out[i], out[j] = out[j], out[i]
	}
	return out, api.OK
}

// CheckRatio returns the error of a ratio, or OK.
func CheckRatio(x api.Ratio) api.Errno {
	return checks.First(
		checks.Range(x.Num, -api.MaxNumber, api.MaxNumber),
		checks.Range(x.Den, 1, api.MaxNumber),
		checks.Unless(ratios.CommonDivisor(x.Num, x.Den) == 1, api.ErrForm),
	)
}

// CheckLevel returns the error of a level, or OK.
func CheckLevel(x float32) api.Errno {
	wide := float64(x)
	if math.IsNaN(wide) || math.IsInf(wide, 0) {
		return api.ErrForm
	}
	// A float64 has room for 16 times any float32: nothing is rounded on the way.
	onGrid := math.Trunc(wide*Unit) == wide*Unit
	return checks.Unless(onGrid && math.Abs(wide) <= api.MaxLevel, api.ErrRange)
}

// sixteenths returns 16 times a level, which is an integer.
func sixteenths(level float32) int {
	return int(level * Unit)
}

// distance returns by how many sixteenths two levels differ.
func distance(a, b float32) int {
	d := sixteenths(a) - sixteenths(b)
	return max(d, -d)
}
