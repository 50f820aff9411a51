package tide

import (
	"slices"

	"tideway/api"
	"tideway/checks"
	"tideway/gauge"
	"tideway/lists"
	"tideway/ratios"
)

// maxTold is the greatest integer up to which a float32 has all of them.
const maxTold = 1 << 24

// Sum returns the sum of two tides.
func Sum(a, b Tide) (Tide, api.Errno) {
	if e := checks.First(CheckTide(a), CheckTide(b), checkSmall(a), checkSmall(b)); e != api.OK {
		return Tide{}, e
	}
	l := slices.Clone(a.Constituents)
	amplitudes := multiplied(a.Amplitudes, b.Den)
	for i, x := range multiplied(b.Amplitudes, a.Den) {
		c := b.Constituents[i]
		at := slices.IndexFunc(a.Constituents, func(other Constituent) bool { return nameless(other) == nameless(c) })
		if at >= 0 {
			amplitudes[at] = plus(amplitudes[at], x)
		} else {
			l, amplitudes = append(l, c), append(amplitudes, x)
		}
	}
	if e := CheckConstituents(l); e != api.OK {
		return Tide{}, e
	}
	return newTide(l, amplitudes, a.Den*b.Den), api.OK
}

// nameless returns what the character of a constituent depends on.
func nameless(c Constituent) Constituent {
	return Constituent{Length: c.Length, Step: c.Step}
}

func multiplied(l []api.Gauss, factor int) []api.Gauss {
	return lists.Transform(l, func(a api.Gauss) api.Gauss { return scaled(a, factor) })
}

// Nodal returns the nodal factor of a year.
func Nodal(year int) (api.Ratio, api.Errno) {
	if e := checks.Range(year, 0, MaxYear); e != api.OK {
		return api.Ratio{}, e
	}
	const period, most, unit = 16, 104, 100
	away := year%period - period/2
	return ratios.Lowest(most-max(away, -away), unit), api.OK
}

// Adjust returns a tide with the nodal factor of a year.
func Adjust(t Tide, year int) (Tide, api.Errno) {
	factor, wrongYear := Nodal(year)
	if e := checks.First(CheckTide(t), wrongYear, checkSmall(t)); e != api.OK {
		return Tide{}, e
	}
	return newTide(t.Constituents, multiplied(t.Amplitudes, factor.Num), t.Den*factor.Den), api.OK
}

// Told returns the amplitudes of a tide as numbers.
func Told(t Tide) ([]complex64, api.Errno) {
	if e := checks.First(
		CheckTide(t),
		checks.Unless(t.Den&(t.Den-1) == 0, api.ErrForm),
		checks.Unless(checks.Each(t.Amplitudes, within(maxTold)) == api.OK, api.ErrForm),
	); e != api.OK {
		return nil, e
	}
	// By a power of 2 a float32 is divided without rounding.
	unit := float32(t.Den * gauge.Unit)
	return lists.Transform(t.Amplitudes, func(a api.Gauss) complex64 {
		return complex(float32(a.Re)/unit, float32(a.Im)/unit)
	}), api.OK
}
