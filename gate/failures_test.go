package gate_test

import (
	"math/rand"
	"slices"
	"testing"

	"tideway/api"
	"tideway/gate"
)

// P6.4

// closed is the goal of the chapter's example 6.
func closed() gate.Goal {
	return gate.Goal{Closed: list(3), Told: list(4), Latest: 2, Earlier: 1}
}

// failuresAt returns the failures of a tick of a script.
func failuresAt(tick int) []gate.Failure {
	return []gate.Failure{
		failure("lost", tick),
		failure("stuck", tick, 0, 0), failure("stuck", tick, 0, 1), failure("stuck", tick, 1, 0), failure("stuck", tick, 1, 1), failure("stuck", tick, 2, 0), failure("stuck", tick, 2, 1), failure("stuck", tick, 3, 0), failure("stuck", tick, 3, 1),
	}
}

// everyFailure returns the failures of a script of so many ticks.
func everyFailure(ticks int) []gate.Failure {
	out := []gate.Failure{failure("none")}
	for tick := range ticks {
		out = append(out, failuresAt(tick)...)
	}
	return out
}

func TestFailures(t *testing.T) {
	for _, l := range [][]gate.Input{nil, script("close"), script("close", "done"), {input("x", 15), input("x", 15), input("x", 0)}, slices.Repeat(script("x"), 64)} {
		got, e := gate.Failures(l)
		want(t, "Failures", []any{got, e}, []any{everyFailure(len(l)), api.OK})
		want(t, "their number", len(got), 1+9*len(l))
	}
	for _, bad := range badScripts() {
		l, e := gate.Failures(bad.l)
		wantError(t, "Failures", l, e, bad.e)
	}
}

func TestPlay(t *testing.T) {
	half := with(move(4, "x", 1, 2, 2), move(4, "y", 2, 4, 0), move(1, "x", 4, 8, 8)) // for each bit an event that asks it
	for _, row := range []struct {
		c    gate.Chart
		l    []gate.Input
		f    gate.Failure
		want []int
	}{
		// Example 6.
		{gg(), script("close", "done"), failure("none"), list(2, 3)}, {gg(), script("close", "done"), failure("lost", 0), list(1, 1)}, {gg(), script("close", "done"), failure("lost", 1), list(2, 2)}, {gg(), script("close", "done"), failure("stuck", 0, 0, 1), list(1, 1)}, {gg(), script("close", "done"), failure("stuck", 1, 0, 1), list(2, 3)},
		{gg(), script("close", "done", "fail"), failure("lost", 1), list(2, 2, 4)}, {gg(), nil, failure("none"), nil}, {gg(), script("done", "close", "done"), failure("stuck", 1, 0, 1), list(1, 1, 1)}, {gg(), script("done", "close", "done"), failure("stuck", 2, 0, 1), list(1, 2, 3)},
		// A bit that is stuck is set, or is not, whatever the conditions say, from its tick on, and the others stay.
		{gg(), []gate.Input{input("close", 1), input("done", 0)}, failure("stuck", 0, 0, 0), list(2, 3)}, {gg(), []gate.Input{input("close", 15), input("close", 15), input("close", 15)}, failure("stuck", 1, 0, 0), list(1, 2, 2)}, {gg(), []gate.Input{input("close", 1), input("done", 0)}, failure("stuck", 0, 1, 0), list(1, 1)}, {gg(), []gate.Input{input("close", 1), input("close", 0)}, failure("stuck", 0, 0, 1), list(1, 1)},
		{half, script("fail", "x", "x"), failure("stuck", 0, 1, 1), list(4, 1, 1)}, {half, script("fail", "x", "x"), failure("stuck", 2, 1, 1), list(4, 4, 1)}, {half, []gate.Input{input("fail", 2), input("x", 2)}, failure("stuck", 1, 1, 0), list(4, 4)}, {half, []gate.Input{input("fail", 2), input("x", 2)}, failure("stuck", 1, 1, 1), list(4, 1)},
		{half, script("fail", "y"), failure("stuck", 0, 2, 1), list(4, 4)}, {half, []gate.Input{input("fail", 0), input("y", 4)}, failure("stuck", 0, 2, 0), list(4, 2)}, {half, script("x", "x"), failure("stuck", 1, 3, 1), list(1, 4)}, {half, []gate.Input{input("x", 8)}, failure("stuck", 0, 3, 0), list(1)}, {half, []gate.Input{input("x", 8), input("x", 7)}, failure("stuck", 1, 3, 1), list(4, 1)},
		// An ambiguous input does not matter if it does not come, or not with these conditions.
		{ambiguous(), script("close", "done"), failure("lost", 1), list(2, 2)}, {ambiguous(), script("close", "done"), failure("lost", 0), list(1, 1)}, {ambiguous(), script("close", "done"), failure("stuck", 0, 0, 1), list(1, 1)}, {with(move(0, "fail", 4, 2, 2)), []gate.Input{input("fail", 2)}, failure("stuck", 0, 1, 0), list(4)},
	} {
		l, e := gate.Play(row.c, row.l, row.f)
		want(t, "Play", []any{row.f, l, e}, []any{row.f, row.want, api.OK})
	}
}

func TestErrorsOfPlay(t *testing.T) {
	for _, row := range []struct {
		c gate.Chart
		l []gate.Input
		f gate.Failure
	}{
		{ambiguous(), script("close", "done"), failure("none")}, {ambiguous(), script("close", "done"), failure("stuck", 0, 0, 0)}, {ambiguous(), script("close", "done"), failure("stuck", 1, 0, 1)}, {ambiguous(), script("close", "x", "done"), failure("lost", 1)}, {ambiguous(), append(script("close", "done"), script("fail")...), failure("lost", 2)}, {with(move(0, "fail", 4, 2, 2)), script("fail"), failure("stuck", 0, 1, 1)},
	} {
		l, e := gate.Play(row.c, row.l, row.f)
		wantError(t, "Play", l, e, api.ErrConflict)
		is, e := gate.Serves(row.c, row.l, gate.Goal{Closed: list(1), Told: list(1)}, row.f)
		wantError(t, "Serves", is, e, api.ErrConflict)
	}
	for _, bad := range badFailures() {
		l, e := gate.Play(ambiguous(), script("close", "done"), bad.f)
		wantError(t, "Play", l, e, bad.e)
		for _, script := range badScripts() {
			l, e := gate.Play(gg(), script.l, bad.f)
			wantError(t, "Play", l, e, script.e)
		}
	}
	// A script without inputs has no tick.
	for _, f := range []gate.Failure{failure("lost", 0), failure("stuck", 0, 0, 0)} {
		l, e := gate.Play(gg(), nil, f)
		wantError(t, "Play", l, e, api.ErrRange)
	}
}

func TestServes(t *testing.T) {
	goal := func(latest, earlier int, closed []int, told ...int) gate.Goal {
		return gate.Goal{Closed: closed, Told: told, Latest: latest, Earlier: earlier}
	}
	l := script("close", "done", "open", "fail") // 1 2 3 1 4
	for _, row := range []struct {
		l    []gate.Input
		g    gate.Goal
		f    gate.Failure
		want bool
	}{
		// Example 6.
		{l[:2], closed(), failure("none"), true}, {l[:2], closed(), failure("lost", 0), false}, {l[:2], closed(), failure("lost", 1), false}, {l[:2], closed(), failure("stuck", 0, 0, 1), false}, {l[:2], closed(), failure("stuck", 1, 0, 1), true}, {l[:2], closed(), failure("stuck", 0, 0, 0), true},
		// Closed at the latest tick alone, but told at any tick up to the earlier one.
		{l, goal(2, 0, list(3)), failure("none"), true}, {l, goal(1, 0, list(3)), failure("none"), false}, {l, goal(3, 0, list(3)), failure("none"), false}, {l, goal(0, 0, list(1)), failure("none"), true}, {l, goal(0, 0, list(2)), failure("none"), false}, {l, goal(4, 0, list(4)), failure("none"), true}, {l, goal(4, 0, list(2, 3, 4)), failure("none"), true}, {l, goal(4, 0, list(1, 2, 3)), failure("none"), false},
		{l, goal(4, 1, nil, 3), failure("none"), false}, {l, goal(0, 2, nil, 3), failure("none"), true}, {l, goal(0, 3, nil, 3), failure("none"), true}, {l, goal(0, 4, nil, 3), failure("none"), true}, {l, goal(0, 0, nil, 1), failure("none"), true}, {l, goal(0, 0, nil, 2), failure("none"), false}, {l, goal(0, 3, nil, 4), failure("none"), false}, {l, goal(0, 4, nil, 4), failure("none"), true}, {l, goal(0, 1, nil, 4, 3, 2), failure("none"), true},
		{l, goal(4, 4, nil), failure("none"), false}, {nil, goal(0, 0, list(1)), failure("none"), true}, {nil, goal(0, 0, nil, 1), failure("none"), true}, {nil, goal(0, 0, list(2), 3), failure("none"), false}, {l, goal(4, 4, list(0), 0), failure("none"), false}, {l, goal(2, 0, slices.Repeat(list(3), 16)), failure("none"), true},
		{l, goal(3, 0, list(3)), failure("lost", 2), true}, {l, goal(0, 4, nil, 4), failure("lost", 3), false}, {l, goal(2, 4, list(3), 4), failure("stuck", 0, 0, 1), true},
	} {
		is, e := gate.Serves(gg(), row.l, row.g, row.f)
		want(t, "Serves", []any{row.g, row.f, is, e}, []any{row.g, row.f, row.want, api.OK})
	}
}

// The script goes before the goal, the goal before the failure, and all of them before an ambiguous input.
func TestErrorsOfServes(t *testing.T) {
	l := script("close", "done")
	check := func(c gate.Chart, l []gate.Input, g gate.Goal, f gate.Failure, wanted api.Errno) {
		t.Helper()
		is, e := gate.Serves(c, l, g, f)
		wantError(t, "Serves", is, e, wanted)
	}
	for _, goal := range badGoals() {
		for _, bad := range badFailures()[:4] {
			check(gg(), l, goal.g, bad.f, goal.e)
		}
		check(ambiguous(), l, goal.g, failure("none"), goal.e)
		for _, script := range badScripts() {
			check(gg(), script.l, goal.g, failure("x"), script.e)
		}
	}
	for _, bad := range badFailures() {
		check(ambiguous(), l, closed(), bad.f, bad.e)
	}
	check(gg(), nil, gate.Goal{Latest: 1}, failure("none"), api.ErrRange)
	check(gg(), nil, gate.Goal{Earlier: 1}, failure("none"), api.ErrRange)
	check(gg(), l, gate.Goal{Closed: slices.Repeat(list(0), 17), Latest: 3}, failure("none"), api.ErrMany)
	check(gg(), l, gate.Goal{Latest: 2, Earlier: 2}, failure("none"), api.OK)
	// Also an ambiguous input behind both ticks counts.
	check(ambiguous(), l, gate.Goal{Closed: list(1), Told: list(1)}, failure("none"), api.ErrConflict)
	check(ambiguous(), l, gate.Goal{Closed: list(1), Told: list(1)}, failure("lost", 0), api.OK)
}

func TestWeak(t *testing.T) {
	l := script("close", "done")
	all := everyFailure(2)
	for _, row := range []struct {
		c    gate.Chart
		l    []gate.Input
		g    gate.Goal
		want []gate.Failure
	}{
		{gg(), l, closed(), []gate.Failure{failure("lost", 0), failure("stuck", 0, 0, 1), failure("lost", 1)}}, // example 6
		{gg(), l, gate.Goal{}, all}, {gg(), l, gate.Goal{Closed: list(1)}, nil}, {gg(), l, gate.Goal{Told: list(1), Latest: 2}, nil}, {gg(), nil, gate.Goal{}, all[:1]}, {gg(), nil, gate.Goal{Closed: list(1)}, nil},
		{gg(), l, gate.Goal{Closed: list(3), Told: list(2), Latest: 2, Earlier: 1}, []gate.Failure{failure("lost", 0), failure("stuck", 0, 0, 1)}}, {gg(), script("close", "done", "fail"), gate.Goal{Told: list(4), Earlier: 3}, []gate.Failure{failure("lost", 2)}},
		{gg(), []gate.Input{input("close", 1)}, gate.Goal{Closed: list(2), Latest: 1}, append([]gate.Failure{failure("none"), failure("lost", 0)}, failuresAt(0)[2:]...)},
		{ambiguous(), script("close", "fail"), gate.Goal{Told: list(4), Earlier: 2}, []gate.Failure{failure("lost", 1)}},
	} {
		l, e := gate.Weak(row.c, row.l, row.g)
		want(t, "Weak", []any{row.g, l, e}, []any{row.g, row.want, api.OK})
	}
}

func TestErrorsOfWeak(t *testing.T) {
	check := func(c gate.Chart, l []gate.Input, g gate.Goal, wanted api.Errno) {
		t.Helper()
		weak, e := gate.Weak(c, l, g)
		wantError(t, "Weak", weak, e, wanted)
	}
	for _, goal := range badGoals() {
		check(ambiguous(), script("close", "done"), goal.g, goal.e)
		for _, script := range badScripts() {
			check(gg(), script.l, goal.g, script.e)
		}
	}
	check(ambiguous(), script("close", "done"), closed(), api.ErrConflict)
	check(ambiguous(), script("close", "fail"), closed(), api.OK)
	// One failure is enough: a lost input, or a bit that is stuck.
	check(ambiguous(), script("close", "fail", "done"), gate.Goal{Closed: list(1)}, api.ErrConflict)
	check(with(move(0, "fail", 4, 8, 8)), script("close", "fail"), gate.Goal{Closed: list(1)}, api.ErrConflict)
	check(with(move(0, "fail", 4, 8, 0)), []gate.Input{input("fail", 8)}, gate.Goal{Closed: list(1)}, api.ErrConflict)
	check(with(move(0, "fail", 4, 9, 9)), script("fail"), gate.Goal{Closed: list(1)}, api.OK)
}

func TestFailuresByDefinition(t *testing.T) {
	r := rand.New(rand.NewSource(127))
	sure, conflicts := 0, 0
	for range 400 {
		c := randomChart(r, 8)
		l := randomScript(r, c, 6)
		g := gate.Goal{Closed: list(r.Intn(len(c.States)), r.Intn(len(c.States))), Told: list(r.Intn(len(c.States))), Latest: r.Intn(len(l) + 1), Earlier: r.Intn(len(l) + 1)}
		var weak []gate.Failure
		wrong := api.OK
		for _, f := range everyFailure(len(l)) {
			course, ok := play(c, l, f)
			got, e := gate.Play(c, l, f)
			is, same := gate.Serves(c, l, g, f)
			if !ok {
				wrong = api.ErrConflict
				wantError(t, "Play", got, e, wrong)
				wantError(t, "Serves", is, same, wrong)
				continue
			}
			want(t, "Play", []any{got, e}, []any{course[1:], api.OK})
			want(t, "Serves", []any{is, same}, []any{serves(c, l, g, f), api.OK})
			if !is {
				weak = append(weak, f)
			}
		}
		got, e := gate.Weak(c, l, g)
		if wrong != api.OK {
			conflicts++
			wantError(t, "Weak", got, e, wrong)
			continue
		}
		sure++
		want(t, "Weak", []any{got, e}, []any{weak, api.OK})
	}
	if sure < 100 || conflicts < 50 {
		t.Errorf("%d scripts have no ambiguous input, %d have some", sure, conflicts)
	}
}
