package surge

import (
	"slices"

	"tideway/api"
	"tideway/checks"
)

// CheckNights returns the first error of nights, or OK.
func CheckNights(l []Night) api.Errno {
	return checks.First(checks.Count(len(l), MaxNights), checks.Each(l, checkNight))
}

func checkNight(n Night) api.Errno {
	return checks.First(
		checks.Count(len(n.Forecast), MaxTicks),
		checks.Unless(len(n.Observed) == len(n.Forecast), api.ErrShape),
		checks.Each(n.Forecast, checkHeight),
		checks.Each(n.Observed, checkHeight),
	)
}

// bounds returns the least and the greatest deviation of a night without an error.
func (n Night) bounds() api.Interval {
	deviations := make([]int, len(n.Observed))
	for i, observed := range n.Observed {
		deviations[i] = observed - n.Forecast[i]
	}
	return api.Interval{Low: slices.Min(deviations), High: slices.Max(deviations)}
}

// Learn returns the bounds that are learned from nights.
func Learn(l []Night) (api.Interval, api.Errno) {
	if e := CheckNights(l); e != api.OK {
		return api.Interval{}, e
	}
	return hull(l, Night.bounds), api.OK
}

// hull returns the least interval with those of all elements.
func hull[T any](l []T, interval func(T) api.Interval) api.Interval {
	out := interval(l[0])
	for _, x := range l[1:] {
		next := interval(x)
		out = api.Interval{Low: min(out.Low, next.Low), High: max(out.High, next.High)}
	}
	return out
}

// Verify returns the nights that lie outside an interval.
func Verify(l []Night, bounds api.Interval) ([]int, api.Errno) {
	if e := checks.First(CheckNights(l), checkBounds(bounds)); e != api.OK {
		return nil, e
	}
	var out []int
	for i, n := range l {
		if own := n.bounds(); own.Low < bounds.Low || own.High > bounds.High {
			out = append(out, i)
		}
	}
	return out, api.OK
}
