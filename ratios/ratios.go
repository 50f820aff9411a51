// Package ratios has common divisors, and quotients, in lowest terms or rounded down.
package ratios

import "tideway/api"

// CommonDivisor returns the greatest common divisor of integers. Zeros do not count: of these alone, or of no integers, it is 0.
func CommonDivisor(integers ...int) int {
	out := 0
	for _, x := range integers {
		for x != 0 {
			out, x = x, out%x
		}
	}
	return max(out, -out)
}

// Lowest returns a quotient in lowest terms; its denominator is above 0.
func Lowest(num, den int) api.Ratio {
	common := CommonDivisor(num, den)
	return api.Ratio{Num: num / common, Den: den / common}
}

// Floor returns a quotient, rounded down; its denominator is above 0.
func Floor(num, den int) int {
	out := num / den
	if num%den < 0 {
		out--
	}
	return out
}
