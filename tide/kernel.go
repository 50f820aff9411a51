package tide

import (
	"tideway/api"
	"tideway/checks"
	"tideway/gauge"
	"tideway/lists"
)

// firstDependent returns the index of the first dependent constituent by the normal matrix: the number of constituents if there is none.
func firstDependent(m [][]api.Gauss) int {
	first := len(m)
search:
	for i := range len(m) {
		switch determinant(corner(m, i+1)) {
		case api.Gauss{}:
			first = i
			break search
		}
	}
	return first
}

// Kernel returns numbers, not all 0, with which the constituents add up to 0 on the recorded ticks.
func Kernel(r gauge.Record, l []Constituent) ([]api.Gauss, api.Errno) {
	if e := checkBoth(r, l); e != api.OK {
		return nil, e
	}
	m := normal(r, l)
	first := firstDependent(m)
	if first == len(m) {
		return nil, api.ErrNone
	}
	before := corner(m, first)
	sums := lists.Transform(m[:first], func(row []api.Gauss) api.Gauss { return row[first] })
	out := make([]api.Gauss, len(l))
	copy(out, solve(before, sums))
	out[first] = scaled(determinant(before), -1)
	return out, api.OK
}

// CheckKernel returns OK for numbers that prove constituents dependent.
func CheckKernel(r gauge.Record, l []Constituent, v []api.Gauss) api.Errno {
	if e := checks.First(
		checkBoth(r, l),
		checks.Unless(len(v) == len(l), api.ErrShape),
		checks.Each(v, within(MaxPart)),
		checks.Unless(!isZero(v), api.ErrZero),
	); e != api.OK {
		return e
	}
	sum := Tide{Constituents: l, Amplitudes: v}
	for tick := range recorded(r) {
		if sum.value(tick) != (api.Gauss{}) {
			return api.ErrProof
		}
	}
	return api.OK
}

func isZero(v []api.Gauss) bool {
	for _, x := range v {
		if x != (api.Gauss{}) {
			return false
		}
	}
	return true
}
