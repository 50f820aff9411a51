package closing_test

import (
	"cmp"
	"fmt"
	"math"
	"math/rand"
	"slices"
	"strings"
	"testing"

	"tideway/api"
	"tideway/closing"
)

// P8.4

func TestCheckShips(t *testing.T) {
	long := fleet(8, 1000)
	for i := range long {
		long[i] = ship(strings.Repeat(string(rune('a'+i)), 24), 100000, 1000, i%2, 1000)
	}
	for _, l := range [][]closing.Ship{nil, abc(), long, fleet(8, 1), {ship("A_9", 0, 1, 0, 1)}, {ship("a", 0, 1, 0, 1), ship("A", 0, 1, 0, 1)}} {
		want(t, "CheckShips", closing.CheckShips(l), api.OK)
	}
	for i, bad := range badShips() {
		want(t, "CheckShips", []any{i, closing.CheckShips(bad.x)}, []any{i, bad.e})
	}
}

// shipCalls calls all functions with ships, and with the same other arguments.
func shipCalls(l []closing.Ship, turn, clear int, p []closing.Passage) map[string][]any {
	out := map[string][]any{}
	best, e := closing.Passages(l, turn, clear)
	out["Passages"] = []any{best, e}
	n, e := closing.CheckPassages(l, turn, clear, p)
	out["CheckPassages"] = []any{n, e}
	left, e := closing.Uncleared(l, turn, clear)
	out["Uncleared"] = []any{left, e}
	late, e := closing.Late(l, clear)
	out["Late"] = []any{late, e}
	return out
}

// wantShipErrors checks that all functions return an error.
func wantShipErrors(t *testing.T, l []closing.Ship, turn, clear int, p []closing.Passage, e api.Errno) {
	t.Helper()
	results := shipCalls(l, turn, clear, p)
	want(t, "calls", len(results), 4)
	for what, result := range results {
		wantError(t, what, result[0], result[1].(api.Errno), e)
	}
}

// The errors of ships go before those of the turn and the tick, and these before those of passages.
func TestErrorsOfShips(t *testing.T) {
	for _, bad := range badShips() {
		wantShipErrors(t, bad.x, -1, -1, pass(-1, -1), bad.e)
		wantShipErrors(t, bad.x, 1, 10, nil, bad.e)
	}
	for _, n := range outside(0, api.MaxTime) {
		for _, l := range [][]closing.Ship{nil, abc()} {
			wantShipErrors(t, l, 1, n, pass(-1, -1), api.ErrRange)
			wantShipErrors(t, l, -1, n, nil, api.ErrRange)
		}
	}
	for _, n := range outside(0, 1000) {
		p, e := closing.Passages(abc(), n, 10)
		wantError(t, "Passages", p, e, api.ErrRange)
		sum, e := closing.CheckPassages(abc(), n, 10, pass(-1, -1))
		wantError(t, "CheckPassages", sum, e, api.ErrRange)
		l, e := closing.Uncleared(abc(), n, 10)
		wantError(t, "Uncleared", l, e, api.ErrRange)
	}
	for _, n := range list(0, 1000) {
		for _, clear := range list(0, 100000) {
			_, e := closing.Passages(abc(), n, clear)
			want(t, "error of Passages", e, api.OK)
		}
	}
}

func TestPassages(t *testing.T) {
	for _, row := range []struct {
		l           []closing.Ship
		turn, clear int
		want        []closing.Passage
		left, late  []int
	}{
		{abc(), 1, 10, pass(0, 0, 1, 5), list(2), nil}, {abc(), 1, 14, pass(0, 0, 2, 4, 1, 8), nil, nil}, {abc(), 1, 3, nil, list(0, 1, 2), list(0, 1, 2)}, // example 5
		{abc(), 1, 11, pass(0, 0, 2, 4, 1, 8), nil, nil}, {abc(), 0, 10, pass(0, 0, 1, 4, 2, 7), nil, nil}, {abc(), 0, 9, pass(0, 0, 1, 4), list(2), nil}, {abc(), 1, 7, pass(0, 0, 2, 4), list(1), nil},
		{nil, 0, 0, nil, nil, nil}, {nil, 1000, 100000, nil, nil, nil}, {fleet(1, 4), 0, 4, pass(0, 0), nil, nil}, {fleet(1, 4), 0, 3, nil, list(0), list(0)},
		{fleet(8, 3), 9, 24, pass(0, 0, 1, 3, 2, 6, 3, 9, 4, 12, 5, 15, 6, 18, 7, 21), nil, nil}, {fleet(8, 3), 9, 23, pass(0, 0, 1, 3, 2, 6, 3, 9, 4, 12, 5, 15, 6, 18), list(7), nil}, {fleet(8, 3), 9, 7, pass(0, 0, 1, 3), list(2, 3, 4, 5, 6, 7), nil},
		// One ship with more priority is better than two with less.
		{[]closing.Ship{ship("a", 0, 2, 0, 1), ship("b", 0, 2, 0, 1), ship("c", 0, 4, 0, 3)}, 0, 4, pass(2, 0), list(0, 1), nil}, {[]closing.Ship{ship("a", 0, 2, 0, 1), ship("b", 0, 2, 0, 2), ship("c", 0, 4, 0, 3)}, 0, 4, pass(0, 0, 1, 2), list(2), nil},
		// Of sets with the same priorities the first one counts, not how many ships there are, nor when they end.
		{[]closing.Ship{ship("a", 0, 4, 0, 2), ship("b", 0, 1, 0, 1), ship("c", 0, 1, 0, 1)}, 0, 4, pass(0, 0), list(1, 2), nil}, {[]closing.Ship{ship("b", 0, 1, 0, 1), ship("a", 0, 4, 0, 2), ship("c", 0, 1, 0, 1)}, 0, 4, pass(0, 0, 2, 1), list(1), nil}, {[]closing.Ship{ship("b", 0, 1, 0, 1), ship("c", 0, 1, 0, 1), ship("a", 0, 4, 0, 2)}, 0, 4, pass(0, 0, 1, 1), list(2), nil},
		// Of orders of one set the one with the least end counts, then the ships.
		{[]closing.Ship{ship("a", 3, 2, 0, 1), ship("b", 0, 2, 0, 1)}, 0, 9, pass(1, 0, 0, 3), nil, nil}, {[]closing.Ship{ship("a", 2, 2, 0, 1), ship("b", 0, 2, 0, 1), ship("c", 0, 1, 0, 1)}, 0, 9, pass(1, 0, 0, 2, 2, 4), nil, nil},
		{[]closing.Ship{ship("a", 0, 1, 1, 1), ship("b", 0, 1, 0, 1), ship("c", 0, 1, 1, 1)}, 2, 9, pass(0, 0, 2, 1, 1, 4), nil, nil},
		// A turn lies between ships from different sides alone, not before the first one.
		{[]closing.Ship{ship("a", 0, 2, 1, 1)}, 1000, 2, pass(0, 0), nil, nil}, {[]closing.Ship{ship("a", 0, 2, 0, 1), ship("b", 0, 2, 1, 1)}, 1000, 1004, pass(0, 0, 1, 1002), nil, nil}, {[]closing.Ship{ship("a", 0, 2, 0, 1), ship("b", 0, 2, 1, 1)}, 1000, 1003, pass(0, 0), list(1), nil},
		// The turn goes by while the next ship is not there yet.
		{[]closing.Ship{ship("a", 0, 2, 0, 1), ship("b", 9, 2, 1, 1)}, 7, 11, pass(0, 0, 1, 9), nil, nil}, {[]closing.Ship{ship("a", 0, 2, 0, 1), ship("b", 9, 2, 1, 1)}, 8, 12, pass(0, 0, 1, 10), nil, nil},
		{[]closing.Ship{ship("a", 100000, 1, 0, 1), ship("b", 99000, 1000, 0, 1)}, 0, 100000, pass(1, 99000), list(0), list(0)},
	} {
		p, e := closing.Passages(row.l, row.turn, row.clear)
		want(t, "Passages", []any{p, e}, []any{row.want, api.OK})
		left, e := closing.Uncleared(row.l, row.turn, row.clear)
		want(t, "Uncleared", []any{left, e}, []any{row.left, api.OK})
		late, e := closing.Late(row.l, row.clear)
		want(t, "Late", []any{late, e}, []any{row.late, api.OK})
	}
}

func TestLate(t *testing.T) {
	for clear, wanted := range [][]int{{0, 1, 2}, {0, 1, 2}, {0, 1, 2}, {0, 1, 2}, {2}, nil, nil} {
		late, e := closing.Late(abc(), clear)
		want(t, fmt.Sprint("Late by ", clear), []any{late, e}, []any{wanted, api.OK})
	}
}

func TestCheckPassages(t *testing.T) {
	for _, row := range []struct {
		p   []closing.Passage
		sum int
		e   api.Errno
	}{
		{nil, 0, api.OK}, {pass(0, 0), 3, api.OK}, {pass(1, 1), 2, api.OK}, {pass(0, 0, 1, 5), 5, api.OK}, {pass(0, 0, 2, 4), 5, api.OK}, {pass(0, 0, 2, 4, 1, 8), 7, api.OK}, {pass(0, 0, 2, 5, 1, 9), 7, api.OK}, {pass(1, 1, 0, 5, 2, 9), 7, api.OK}, {pass(0, 8), 3, api.OK}, {pass(2, 9), 2, api.OK},
		{pass(3, 0), 0, api.ErrUnknown}, {pass(-1, 0), 0, api.ErrUnknown}, {pass(math.MinInt, 0), 0, api.ErrUnknown}, {pass(math.MaxInt, 0), 0, api.ErrUnknown}, {pass(-1, -1), 0, api.ErrUnknown}, {pass(3, 100), 0, api.ErrUnknown}, {pass(0, 0, 3, 0), 0, api.ErrUnknown},
		{pass(0, 0, 0, 4), 0, api.ErrTwice}, {pass(0, 0, 0, 0), 0, api.ErrTwice}, {pass(0, 0, 1, 5, 0, -1), 0, api.ErrTwice}, {pass(0, 0, 1, 5, 1, 100), 0, api.ErrTwice}, {pass(1, 1, 0, 5, 2, 9, 1, 12), 0, api.ErrTwice},
		// Before the arrival.
		{pass(0, -1), 0, api.ErrOrder}, {pass(1, 0), 0, api.ErrOrder}, {pass(2, 1), 0, api.ErrOrder}, {pass(0, math.MinInt), 0, api.ErrOrder}, {pass(2, math.MinInt), 0, api.ErrOrder},
		// Before the end of the passage before, and the turn.
		{pass(0, 0, 2, 3), 0, api.ErrOrder}, {pass(0, 0, 1, 4), 0, api.ErrOrder}, {pass(0, 1, 2, 4), 0, api.ErrOrder}, {pass(0, 0, 2, 4, 1, 7), 0, api.ErrOrder}, {pass(1, 1, 0, 4), 0, api.ErrOrder}, {pass(2, 4, 0, 0), 0, api.ErrOrder}, {pass(0, 5, 1, 2), 0, api.ErrOrder},
		// Behind the tick 12.
		{pass(0, 9), 0, api.ErrOver}, {pass(2, 10), 0, api.ErrOver}, {pass(0, 0, 2, 4, 1, 10), 0, api.ErrOver}, {pass(0, math.MaxInt), 0, api.ErrOver}, {pass(1, math.MaxInt-1), 0, api.ErrOver}, {pass(0, 8, 2, 12), 0, api.ErrOver},
		// The first passage with an error decides.
		{pass(0, 9, 3, 0), 0, api.ErrOver}, {pass(0, -1, 0, 9), 0, api.ErrOrder}, {pass(0, 0, 0, 9, 3, 0), 0, api.ErrTwice}, {pass(0, 0, 3, 0, 0, 9), 0, api.ErrUnknown}, {pass(0, math.MaxInt, 2, 0), 0, api.ErrOver},
	} {
		sum, e := closing.CheckPassages(abc(), 1, 12, row.p)
		wantError(t, fmt.Sprint("CheckPassages of ", row.p), sum, e, row.e)
		want(t, fmt.Sprint("CheckPassages of ", row.p), sum, row.sum)
	}
	// A ship is late and early at once: what is named first counts.
	sum, e := closing.CheckPassages(abc(), 1, 3, pass(0, -1))
	wantError(t, "CheckPassages", sum, e, api.ErrOrder)
	sum, e = closing.CheckPassages(abc(), 1, 3, pass(0, 0))
	wantError(t, "CheckPassages", sum, e, api.ErrOver)
	sum, e = closing.CheckPassages(nil, 1, 3, nil)
	want(t, "CheckPassages", []any{sum, e}, []any{0, api.OK})
	sum, e = closing.CheckPassages(nil, 1, 3, pass(0, 0))
	wantError(t, "CheckPassages", sum, e, api.ErrUnknown)
}

// best returns the best passages: those of all lists of ships are compared.
func best(l []closing.Ship, turn, clear int) []closing.Passage {
	var cleared [][]int
	for _, ships := range arrangements(len(l)) {
		over := func(n int) bool { return lastEnd(l, earliest(l, turn, ships[:n+1])) > clear }
		if !slices.ContainsFunc(tens(len(ships), 1), over) {
			cleared = append(cleared, ships)
		}
	}
	first := slices.MinFunc(cleared, func(a, b []int) int {
		ends := cmp.Compare(lastEnd(l, earliest(l, turn, a)), lastEnd(l, earliest(l, turn, b)))
		return cmp.Or(cmp.Compare(priority(l, b), priority(l, a)), slices.Compare(slices.Sorted(slices.Values(a)), slices.Sorted(slices.Values(b))), ends, slices.Compare(a, b))
	})
	return earliest(l, turn, first)
}

func TestPassagesByDefinition(t *testing.T) {
	r := rand.New(rand.NewSource(306))
	left := map[int]int{}
	for range rounds {
		l := randomShips(r, 5)
		turn, clear := r.Intn(4), r.Intn(22)
		want(t, "CheckShips", closing.CheckShips(l), api.OK)
		wanted := best(l, turn, clear)
		p, e := closing.Passages(l, turn, clear)
		want(t, "Passages", []any{l, turn, clear, p, e}, []any{l, turn, clear, wanted, api.OK})
		var uncleared, late, passing []int
		for i, s := range l {
			if !slices.ContainsFunc(wanted, func(p closing.Passage) bool { return p.Ship == i }) {
				uncleared = append(uncleared, i)
			} else {
				passing = append(passing, i)
			}
			if s.Arrival+s.Length > clear {
				late = append(late, i)
			}
		}
		left[len(uncleared)]++
		got, e := closing.Uncleared(l, turn, clear)
		want(t, "Uncleared", []any{got, e}, []any{uncleared, api.OK})
		got, e = closing.Late(l, clear)
		want(t, "Late", []any{got, e}, []any{late, api.OK})
		sum, e := closing.CheckPassages(l, turn, clear, p)
		want(t, "CheckPassages", []any{sum, e}, []any{priority(l, passing), api.OK})
	}
	for n := range 5 {
		if left[n] < 10 {
			t.Errorf("%d ships are left %d times", n, left[n])
		}
	}
}

// judgePassages returns the error of passages, tick by tick.
func judgePassages(l []closing.Ship, turn, clear int, p []closing.Passage) api.Errno {
	free := list(0, 0) // from when on ships from each side can start
	gone := map[int]bool{}
	for _, x := range p {
		if x.Ship < 0 || x.Ship >= len(l) {
			return api.ErrUnknown
		}
		if gone[x.Ship] {
			return api.ErrTwice
		}
		gone[x.Ship] = true
		s := l[x.Ship]
		if x.Start < s.Arrival || x.Start < free[s.Side] {
			return api.ErrOrder
		}
		end := x.Start
		for range s.Length {
			end++
			if end > clear {
				return api.ErrOver
			}
		}
		free[s.Side], free[1-s.Side] = end, end+turn
	}
	return api.OK
}

func TestCheckPassagesByDefinition(t *testing.T) {
	r := rand.New(rand.NewSource(307))
	errors := map[api.Errno]int{}
	for range 20 * rounds {
		l := randomShips(r, 4)
		turn, clear := r.Intn(3), r.Intn(25)
		var p []closing.Passage
		for range r.Intn(len(l) + 1) {
			p = append(p, closing.Passage{Ship: r.Intn(len(l) + 1), Start: 6*len(p) + r.Intn(7)})
		}
		e := judgePassages(l, turn, clear, p)
		errors[e]++
		sum, got := closing.CheckPassages(l, turn, clear, p)
		wantError(t, fmt.Sprint("CheckPassages of ", l, turn, clear, p), sum, got, e)
	}
	for _, e := range []api.Errno{api.OK, api.ErrUnknown, api.ErrTwice, api.ErrOrder, api.ErrOver} {
		if errors[e] < rounds/3 {
			t.Errorf("the error %d comes %d times", e, errors[e])
		}
	}
}
