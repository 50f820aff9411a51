package tide

import (
	"tideway/api"
	"tideway/checks"
	"tideway/gauge"
	"tideway/ratios"
)

// Analyse returns the tide with the least squared residual.
func Analyse(r gauge.Record, l []Constituent) (Tide, api.Errno) {
	if e := checkBoth(r, l); e != api.OK {
		return Tide{}, e
	}
	m := normal(r, l)
	den := determinant(m).Re
	if den == 0 {
		return Tide{}, api.ErrSingular
	}
	return newTide(l, solve(m, levelSums(r, l)), den), api.OK
}

// Least returns the least squared residual.
func Least(r gauge.Record, l []Constituent) (api.Ratio, api.Errno) {
	t, e := Analyse(r, l)
	if e != api.OK {
		return api.Ratio{}, e
	}
	rest := 0
	for _, level := range recorded(r) {
		rest += level * level * t.Den
	}
	// The residual of an analysis is at right angles to its values: so its square is that of the levels less that of the values,
	// and the latter is the product of levels and values. The residuals themselves, squared, would need more than 64 bits.
	for i, b := range levelSums(r, l) {
		rest -= times(conjugate(t.Amplitudes[i]), b).Re
	}
	return ratios.Lowest(rest, t.Den), api.OK
}

// Residual returns the squared residual of a tide.
func Residual(r gauge.Record, t Tide) (api.Ratio, api.Errno) {
	if e := checks.First(checkRecord(r), CheckTide(t), checkSmall(t)); e != api.OK {
		return api.Ratio{}, e
	}
	sum := 0
	for tick, level := range recorded(r) {
		sum += square(plus(api.Gauss{Re: level * t.Den}, scaled(t.value(tick), -1)))
	}
	return ratios.Lowest(sum, t.Den*t.Den), api.OK
}
