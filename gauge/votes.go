package gauge

import (
	"slices"

	"tideway/api"
	"tideway/checks"
)

// ballot is what three gauges have at an index.
type ballot struct {
	levels [3]float32
	known  [3]bool
}

// Vote returns the vote of three records, and at how many indices each one deviates.
func Vote(l [3]Record, tolerance int) (Record, [3]int, api.Errno) {
	if e := checks.First(
		CheckRecord(l[0]),
		CheckRecord(l[1]),
		CheckRecord(l[2]),
		checks.Range(tolerance, 0, maxStep),
		checks.Unless(fit(l[0], l[1]) && fit(l[0], l[2]), api.ErrShape),
	); e != api.OK {
		return Record{}, [3]int{}, e
	}
	levels := make([]float32, len(l[0].Levels))
	marked := make([]bool, len(levels))
	var deviations [3]int
	for i, b := range ballots(l) {
		level, ok := b.result(tolerance)
		if !ok {
			continue
		}
		levels[i], marked[i] = level, true
		for g, far := range b.deviating(level, tolerance) {
			if far {
				deviations[g]++
			}
		}
	}
	return assemble(l[0].Name, l[0].Start, levels, marked), deviations, api.OK
}

// fit reports whether two records have the same start and the same number of levels.
func fit(a, b Record) bool {
	return a.Start == b.Start && len(a.Levels) == len(b.Levels)
}

// ballots returns the ballots of records with the same number of levels, index by index.
func ballots(l [3]Record) []ballot {
	out := make([]ballot, len(l[0].Levels))
	for g, r := range l {
		for i, level := range recorded(r) {
			out[i].levels[g], out[i].known[g] = level, true
		}
	}
	return out
}

// result returns the level of the vote, and whether there is one.
func (b ballot) result(tolerance int) (float32, bool) {
	if b.known == [3]bool{true, true, true} {
		slices.Sort(b.levels[:])
		return b.levels[1], true
	}
	var there []float32
	for g, is := range b.known {
		if is {
			there = append(there, b.levels[g])
		}
	}
	if len(there) < 2 || distance(there[0], there[1]) > tolerance {
		return 0, false
	}
	return max(there[0], there[1]), true
}

// deviating marks the gauges that differ from the level of the vote by more than the tolerance.
func (b ballot) deviating(level float32, tolerance int) [3]bool {
	var out [3]bool
	for g, is := range b.known {
		out[g] = is && distance(b.levels[g], level) > tolerance
	}
	return out
}
