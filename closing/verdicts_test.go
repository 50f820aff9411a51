package closing_test

import (
	"math/rand"
	"slices"
	"testing"

	"tideway/api"
	"tideway/closing"
)

// P8.2

// progress is the ends of phases, the present tick, and the verdict by a deadline, or the error.
type progress struct {
	deadline int
	done     []int
	now      int
	verdict  string
	e        api.Errno
}

func wantVerdicts(t *testing.T, l []closing.Phase, rows ...progress) {
	t.Helper()
	for _, row := range rows {
		verdict, e := closing.Verdict(l, row.deadline, row.done, row.now)
		want(t, "Verdict", []any{l, row.deadline, row.done, row.now, verdict, e}, []any{l, row.deadline, row.done, row.now, row.verdict, row.e})
	}
}

func TestVerdict(t *testing.T) {
	none, crew, both := list(-1, -1, -1, -1), list(4, -1, -1, -1), list(2, 5, -1, -1)
	all := list(2, 5, 8, 10)
	wantVerdicts(t, pp(),
		progress{12, none, 4, "kept", 0}, progress{12, crew, 6, "kept", 0}, progress{10, crew, 6, "open", 0}, progress{9, crew, 6, "missed", 0}, // example 3
		progress{11, none, 0, "kept", 0}, progress{10, none, 0, "open", 0}, progress{6, none, 0, "open", 0}, progress{5, none, 0, "missed", 0}, progress{0, none, 0, "missed", 0},
		// Ships can still end at 1, crew at 2 at the earliest; at 4 both end now.
		progress{6, none, 2, "open", 0}, progress{6, none, 3, "missed", 0}, progress{8, none, 4, "open", 0}, progress{7, none, 4, "missed", 0},
		// Both have ended: lower takes from 5 to 8, seal 1 or 2.
		progress{10, both, 5, "kept", 0}, progress{9, both, 5, "open", 0}, progress{8, both, 5, "missed", 0}, progress{10, both, 8, "kept", 0}, progress{9, both, 8, "open", 0},
		progress{10, list(2, 5, 8, -1), 8, "kept", 0}, progress{9, list(2, 5, 8, -1), 9, "open", 0}, progress{9, list(2, 5, 8, -1), 10, "missed", 0}, progress{10, list(2, 5, 8, -1), 10, "kept", 0},
		progress{10, all, 10, "kept", 0}, progress{10, all, 100000, "kept", 0}, progress{9, all, 10, "missed", 0}, progress{0, all, 77, "missed", 0},
	)
	wantVerdicts(t, nil, progress{0, nil, 0, "kept", 0}, progress{0, nil, 100000, "kept", 0})
	// What has ended behind the deadline is missed, whatever else is early.
	wantVerdicts(t, []closing.Phase{phase("a", 0, 9), phase("b", 1, 9)}, progress{5, list(6, -1), 6, "missed", 0}, progress{6, list(6, -1), 6, "open", 0}, progress{9, list(6, -1), 6, "kept", 0}, progress{9, list(6, -1), 9, "kept", 0}, progress{8, list(6, -1), 9, "missed", 0})
	wantVerdicts(t, row(16, 1000, 1000), progress{16000, slices.Repeat(list(-1), 16), 0, "kept", 0}, progress{15999, slices.Repeat(list(-1), 16), 0, "missed", 0}, progress{16000, tens(17, 1000)[1:], 16000, "kept", 0})
}

func TestImpossibleProgress(t *testing.T) {
	conflict := func(now int, done ...int) progress { return progress{100, done, now, "", api.ErrConflict} }
	kept := func(now int, done ...int) progress { return progress{100, done, now, "kept", 0} }
	wantVerdicts(t, pp(),
		// crew takes from 2 to 4, ships from 1 to 6.
		conflict(9, 1, 1, -1, -1), kept(2, 2, 1, -1, -1), kept(4, 4, 1, -1, -1), conflict(5, 5, 1, -1, -1), conflict(2, 2, 0, -1, -1), kept(6, 2, 6, -1, -1), conflict(7, 2, 7, -1, -1),
		// lower takes 3 from 4 on, seal 1 or 2 from 7 on.
		kept(7, 4, 1, 7, -1), conflict(6, 4, 1, 6, -1), conflict(8, 4, 1, 8, -1), conflict(7, 4, 1, 7, 7), kept(8, 4, 1, 7, 8), kept(9, 4, 1, 7, 9), conflict(10, 4, 1, 7, 10),
		// Nothing has ended behind the present tick.
		conflict(1, 2, -1, -1, -1), kept(2, 2, -1, -1, -1), conflict(8, 4, 1, 7, 9), conflict(3, 4, 1, -1, -1), conflict(6, 4, 1, 7, -1),
		// Nothing ends before what is before it, or without it.
		conflict(5, 4, -1, 3, -1), conflict(5, -1, 1, 3, -1), conflict(5, -1, -1, 3, -1), conflict(9, 4, 1, -1, 9), conflict(9, -1, -1, -1, 9), conflict(6, 4, -1, 4, -1), conflict(9, 4, 1, 0, -1), conflict(9, 4, 1, 7, 0),
		// What has started takes its greatest duration at most.
		kept(4, -1, -1, -1, -1), conflict(5, -1, -1, -1, -1), kept(6, 4, -1, -1, -1), conflict(7, 4, -1, -1, -1), kept(7, 2, 4, -1, -1), conflict(8, 2, 4, -1, -1), kept(9, 2, 4, 7, -1), conflict(10, 2, 4, 7, -1), conflict(100000, 2, 4, 7, -1),
		kept(3, -1, 2, -1, -1), conflict(5, -1, 2, -1, -1),
	)
	// A phase without a duration ends when it starts.
	still := []closing.Phase{phase("a", 0, 0), phase("b", 0, 0, 0), phase("c", 0, 3, 1)}
	wantVerdicts(t, still,
		kept(0, -1, -1, -1), conflict(1, -1, -1, -1), kept(0, 0, -1, -1), kept(0, 0, 0, -1), kept(3, 0, 0, -1), kept(9, 0, 0, 3), conflict(4, 0, 0, 4), conflict(1, 0, 1, -1), conflict(1, 0, -1, -1), conflict(0, -1, 0, -1), kept(0, 0, 0, 0),
	)
}

func TestErrorsOfVerdict(t *testing.T) {
	good := list(-1, -1, -1, -1)
	check := func(deadline int, done []int, now int, e api.Errno) {
		t.Helper()
		verdict, got := closing.Verdict(pp(), deadline, done, now)
		wantError(t, "Verdict", verdict, got, e)
	}
	for _, n := range outside(0, api.MaxTime) {
		check(n, list(-2), -1, api.ErrRange)
		check(n, good, 0, api.ErrRange)
		check(12, good, n, api.ErrRange)
		check(12, list(9, -1, -1, -1), n, api.ErrRange)
		check(12, list(-1, -1, -1), n, api.ErrShape)
	}
	for _, done := range [][]int{nil, list(-2), list(-1, -1, -1), list(-2, -2, -2, -2, -2), make([]int, 2000)} {
		check(12, done, -1, api.ErrShape)
	}
	for i := range 4 {
		for _, n := range outside(-1, api.MaxTime) {
			done := slices.Clone(good)
			done[i] = n
			check(12, done, -1, api.ErrRange)
			check(12, done, 0, api.ErrRange)
		}
	}
	check(12, list(100000, -1, -1, -1), 100000, api.ErrConflict)
	check(0, good, 100000, api.ErrConflict)
	verdict, e := closing.Verdict(nil, 12, list(-1), 0)
	wantError(t, "Verdict", verdict, e, api.ErrShape)
}

// allDurations returns all durations that phases can take.
func allDurations(l []closing.Phase) [][]int {
	out := [][]int{nil}
	for _, p := range l {
		var longer [][]int
		for _, durations := range out {
			for d := p.Least; d <= p.Most; d++ {
				longer = append(longer, append(slices.Clone(durations), d))
			}
		}
		out = longer
	}
	return out
}

// fits reports whether what has ended has ended as in a course, and the rest can end now or later.
func fits(done, ends []int, now int) bool {
	for i, end := range ends {
		if done[i] >= 0 && done[i] != end || done[i] < 0 && end < now {
			return false
		}
	}
	return true
}

// judge returns the verdict on a progress by all courses that fit it: none of them if it is not possible.
func judge(l []closing.Phase, courses [][]int, deadline int, done []int, now int) (string, api.Errno) {
	for i, p := range l {
		hasNotEnded := func(before int) bool { return done[before] < 0 }
		if done[i] > now || done[i] >= 0 && slices.ContainsFunc(p.Before, hasNotEnded) {
			return "", api.ErrConflict
		}
	}
	fitting, keeping := 0, 0
	for _, ends := range courses {
		if fits(done, ends, now) {
			fitting++
			if last(ends) <= deadline {
				keeping++
			}
		}
	}
	switch {
	case fitting == 0:
		return "", api.ErrConflict
	case keeping == fitting:
		return "kept", api.OK
	case keeping == 0:
		return "missed", api.OK
	}
	return "open", api.OK
}

func TestVerdictsByDefinition(t *testing.T) {
	r := rand.New(rand.NewSource(303))
	given := map[string]int{}
	for range rounds {
		l := randomPlan(r, 5, 4)
		var courses [][]int
		for _, durations := range allDurations(l) {
			_, ends := simulate(l, durations, make([]int, len(l)))
			courses = append(courses, ends)
		}
		for range 40 {
			ends := courses[r.Intn(len(courses))]
			now := r.Intn(last(ends) + 3)
			done := slices.Clone(ends)
			for i, end := range ends {
				if end > now || end == now && r.Intn(2) == 0 {
					done[i] = -1
				}
			}
			if len(done) > 0 && r.Intn(4) == 0 {
				done[r.Intn(len(done))] = r.Intn(now+3) - 1
			}
			deadline := max(0, last(ends)-3+r.Intn(6))
			verdict, e := judge(l, courses, deadline, done, now)
			given[verdict]++
			wantVerdicts(t, l, progress{deadline, done, now, verdict, e})
		}
	}
	for _, verdict := range []string{"kept", "missed", "open", ""} {
		if given[verdict] < rounds {
			t.Errorf("the verdict %q is given %d times", verdict, given[verdict])
		}
	}
}
