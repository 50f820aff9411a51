package surge

import (
	"slices"

	"tideway/api"
	"tideway/checks"
	"tideway/gauge"
	"tideway/ratios"
)

// CheckEnsemble returns the first error of an ensemble, or OK.
func CheckEnsemble(l []Course) api.Errno {
	if e := checks.Count(len(l), MaxMembers); e != api.OK {
		return e
	}
	return checks.Each(l, func(c Course) api.Errno {
		return checks.First(
			checks.Range(c.Weight, 1, MaxWeight),
			checks.Count(len(c.Heights), MaxTicks),
			checks.Unless(len(c.Heights) == len(l[0].Heights), api.ErrShape),
			checks.Each(c.Heights, checkHeight),
		)
	})
}

// weigh returns the sum of the weights of the courses that are chosen.
func weigh(l []Course, chosen func(c Course) bool) int {
	sum := 0
	for _, c := range l {
		if chosen(c) {
			sum += c.Weight
		}
	}
	return sum
}

// whole returns the sum of all weights.
func whole(l []Course) int {
	return weigh(l, func(Course) bool { return true })
}

// Exceed returns the share of the courses that pass a limit.
func Exceed(l []Course, limit int, s api.Span) (api.Ratio, api.Errno) {
	if e := checks.First(CheckEnsemble(l), checkHeight(limit)); e != api.OK {
		return api.Ratio{}, e
	}
	if s.From < 0 || s.From > s.To || s.To > len(l[0].Heights) {
		return api.Ratio{}, api.ErrSpan
	}
	passing := weigh(l, func(c Course) bool {
		return slices.ContainsFunc(c.Heights[s.From:s.To], func(height int) bool { return height > limit })
	})
	return ratios.Lowest(passing, whole(l)), api.OK
}

// Quantile returns the quantile of a share.
func Quantile(l []Course, index int, share api.Ratio) (int, api.Errno) {
	if e := CheckEnsemble(l); e != api.OK {
		return 0, e
	}
	if e := checks.First(
		checks.Index(index, len(l[0].Heights)),
		gauge.CheckRatio(share),
		checks.Unless(0 <= share.Num && share.Num <= share.Den, api.ErrRange),
	); e != api.OK {
		return 0, e
	}
	// The greatest height at the index is one that is enough: so the quantile is at most MaxHeight.
	out := MaxHeight
	for _, c := range l {
		height := c.Heights[index]
		below := weigh(l, func(other Course) bool { return other.Heights[index] <= height })
		if below*share.Den >= share.Num*whole(l) {
			out = min(out, height)
		}
	}
	return out, api.OK
}

// Enclose returns the enclosure of an ensemble.
func Enclose(l []Course, bounds api.Interval) ([]api.Interval, api.Errno) {
	if e := checks.First(CheckEnsemble(l), checkBounds(bounds)); e != api.OK {
		return nil, e
	}
	out := make([]api.Interval, len(l[0].Heights))
	for i := range out {
		out[i] = hull(l, func(c Course) api.Interval {
			return api.Interval{Low: c.Heights[i] + bounds.Low, High: c.Heights[i] + bounds.High}
		})
	}
	return out, api.OK
}
