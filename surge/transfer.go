package surge

import (
	"slices"

	"tideway/api"
	"tideway/checks"
)

// CheckTransfer returns the first error of a transfer, or OK.
func CheckTransfer(t Transfer) api.Errno {
	return checks.First(
		checks.Count(len(t.Taps), MaxTaps),
		checks.Each(t.Taps, func(tap int) api.Errno { return checks.Range(tap, -MaxTap, MaxTap) }),
		checks.Range(t.Shift, 0, MaxShift),
		checks.Range(t.Offset, -MaxOffset, MaxOffset),
	)
}

// Apply returns a transfer, applied to numbers.
func Apply(t Transfer, l []int) ([]int, api.Errno) {
	if e := checks.First(
		CheckTransfer(t),
		checks.Most(len(l), MaxTicks),
		checks.Each(l, checkHeight),
	); e != api.OK {
		return nil, e
	}
	return apply(t, l), api.OK
}

// apply returns a transfer, applied to numbers, both without errors.
func apply(t Transfer, l []int) []int {
	out := make([]int, len(l))
	for i := range out {
		sum := 0
		for k, tap := range t.Taps {
			sum += tap * l[max(i-k, 0)]
		}
		// A shift rounds down below 0, too: a division would not.
		out[i] = sum>>t.Shift + t.Offset
	}
	return out
}

// Follow returns the courses of all members of a run at a place.
func Follow(d Domain, l []Piece, run int, p Place, t Transfer) ([]Course, api.Errno) {
	if e := checks.First(
		CheckStore(d, l),
		checkTime(run),
		checkPlace(p, d.Rows, d.Columns),
		CheckTransfer(t),
	); e != api.OK {
		return nil, e
	}
	if !isComplete(d, l, run) {
		return nil, api.ErrNone
	}
	levels := levelsAt(d, l, run, p)
	out := make([]Course, len(d.Members))
	for i, m := range d.Members {
		own := levels[i*d.Ticks : (i+1)*d.Ticks]
		out[i] = Course{Weight: m.Weight, Heights: apply(t, own)}
	}
	return out, api.OK
}

// levelsAt returns the values at a place of a complete run, in sixteenths: for all ticks of the first member, then for all of the second one, and so on.
func levelsAt(d Domain, l []Piece, run int, p Place) []int {
	var rows [][]float32
	for piece := range ofRun(l, run) {
		rows = append(rows, piece.Values)
	}
	var out []int
	for field := range slices.Chunk(rows, d.Rows) {
		out = append(out, at(field, p)>>toSixteenths)
	}
	return out
}
