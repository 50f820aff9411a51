package tide

import (
	"tideway/api"
	"tideway/checks"
	"tideway/gauge"
)

// maxHeight is the greatest level in sixteenths.
const maxHeight = api.MaxLevel * gauge.Unit

// value returns the value of a tide at a tick, times the denominator.
func (t Tide) value(tick int) api.Gauss {
	var sum api.Gauss
	for i, c := range t.Constituents {
		sum = plus(sum, times(t.Amplitudes[i], c.at(tick)))
	}
	return sum
}

// Predict returns the values of a tide, times its denominator.
func Predict(t Tide, from, n int) ([]api.Gauss, api.Errno) {
	if e := checks.First(
		CheckTide(t),
		checks.Range(from, 0, api.MaxTime),
		checks.Range(n, 0, api.MaxRecord),
		checks.Range(from+n, 0, api.MaxTime),
	); e != api.OK {
		return nil, e
	}
	out := make([]api.Gauss, n)
	for i := range n {
		out[i] = t.value(from + i)
	}
	return out, api.OK
}

// Levels returns the levels of a tide, rounded.
func Levels(t Tide, from, n int) ([]float32, api.Errno) {
	values, e := Predict(t, from, n)
	if e != api.OK {
		return nil, e
	}
	out := make([]float32, n)
	for i, v := range values {
		height := nearest(v.Re, t.Den)
		if height < -maxHeight || height > maxHeight {
			return nil, api.ErrLevel
		}
		out[i] = float32(height) / gauge.Unit
	}
	return out, api.OK
}

// nearest returns the integer that is nearest to a quotient, the greater one of two; the denominator is above 0.
func nearest(num, den int) int {
	num, den = 2*num+den, 2*den
	rest := num % den
	if rest < 0 {
		rest += den
	}
	return (num - rest) / den
}
