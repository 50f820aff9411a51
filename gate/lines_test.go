package gate_test

import (
	"math"
	"math/rand"
	"slices"
	"strings"
	"testing"

	"tideway/api"
	"tideway/gate"
)

// P6.3

func command(number, line int, event string) gate.Command {
	return gate.Command{Number: number, Line: line, Event: event}
}

// example4 is the commands of the chapter's example 4.
func example4() []gate.Command {
	return []gate.Command{command(2, 0, "done"), command(1, 1, "close"), command(1, 0, "close"), command(4, 1, "open")}
}

// numbered returns the commands from 1 on, all with the same event.
func numbered(n int) []gate.Command {
	var out []gate.Command
	for i := range n {
		out = append(out, command(i+1, i%2, "open"))
	}
	return out
}

func TestExecute(t *testing.T) {
	for _, row := range []struct {
		l      []gate.Command
		events string
		next   int
	}{
		{example4(), "close done", 3}, // example 4
		{nil, "", 1}, {[]gate.Command{command(2, 0, "a")}, "", 1}, {[]gate.Command{command(1, 1, "a")}, "a", 2}, {[]gate.Command{command(999999999, 1, "a"), command(1, 0, "b")}, "b", 2},
		{append(example4(), command(3, 0, "close")), "close done close open", 5}, {append(example4(), command(3, 0, "x"), command(3, 1, "x"), command(6, 1, "y")), "close done x open", 5},
		{[]gate.Command{command(3, 0, "c"), command(2, 0, "b"), command(1, 0, "a"), command(3, 0, "c"), command(3, 1, "c")}, "a b c", 4}, {slices.Repeat([]gate.Command{command(1, 0, "a")}, 256), "a", 2}, {numbered(256), strings.TrimSpace(strings.Repeat("open ", 256)), 257}, {numbered(256)[1:], "", 1},
	} {
		events, next, e := gate.Execute(row.l)
		want(t, "Execute", []any{strings.Join(events, " "), next, e}, []any{row.events, row.next, api.OK})
	}
}

func TestLost(t *testing.T) {
	for _, row := range []struct {
		l    []gate.Command
		last int
		want []int
	}{
		{example4(), 4, list(3)}, // example 4
		{example4(), 3, list(3)}, {example4(), 2, nil}, {example4(), 0, nil}, {example4(), 7, list(3, 5, 6, 7)}, {nil, 0, nil}, {nil, 3, list(1, 2, 3)}, {numbered(256), 256, nil}, {numbered(255), 256, list(256)}, {numbered(256)[3:], 256, list(1, 2, 3)}, {[]gate.Command{command(999999999, 0, "a"), command(257, 0, "a")}, 2, list(1, 2)},
	} {
		l, e := gate.Lost(row.l, row.last)
		want(t, "Lost", []any{l, e}, []any{row.want, api.OK})
	}
	l, e := gate.Lost(nil, 256)
	want(t, "Lost", []any{len(l), l[0], l[255], e}, []any{256, 1, 256, api.OK})
	for _, last := range outside(256) {
		l, e := gate.Lost(example4(), last)
		wantError(t, "Lost", l, e, api.ErrRange)
	}
}

// badCommands is commands with their first error.
type badCommands struct {
	l []gate.Command
	e api.Errno
}

func allBadCommands() []badCommands {
	var out []badCommands
	at := func(e api.Errno, l ...gate.Command) {
		out = append(out, badCommands{l, e}, badCommands{append(example4(), l...), e})
	}
	at(api.ErrMany, numbered(257)...)
	at(api.ErrMany, make([]gate.Command, 257)...)
	at(api.ErrRange, make([]gate.Command, 252)...)
	for _, n := range list(math.MinInt, -1, 0, 1000000000, math.MaxInt) {
		at(api.ErrRange, command(n, 0, "a"))
		at(api.ErrRange, command(n, 2, ""))
	}
	for _, n := range outside(1) {
		at(api.ErrRange, command(7, n, "a"))
		at(api.ErrRange, command(7, 0, "a"), command(7, n, ""))
	}
	for _, name := range badNames {
		at(api.ErrName, command(7, 0, name))
		at(api.ErrName, command(7, 0, "a"), command(7, 1, name))
	}
	at(api.ErrConflict, command(7, 0, "a"), command(7, 0, "b"))
	at(api.ErrConflict, command(7, 0, "a"), command(7, 1, "A"))
	at(api.ErrConflict, command(7, 0, "a"), command(8, 1, "b"), command(7, 1, "a"), command(7, 1, "b"), command(0, 0, ""))
	at(api.ErrConflict, command(999999999, 0, "a"), command(999999999, 0, "aa"), command(9, 9, "9"))
	at(api.ErrRange, command(7, 2, "a"), command(7, 0, "b"), command(7, 0, "c"))
	at(api.ErrName, command(7, 0, "9"), command(7, 0, "b"), command(0, 0, "c"))
	return append(out, badCommands{append(example4(), command(4, 0, "close")), api.ErrConflict}, badCommands{append(example4(), command(1, 0, "done"), command(0, 0, "close")), api.ErrConflict})
}

func TestErrorsOfCommands(t *testing.T) {
	for _, bad := range allBadCommands() {
		events, next, e := gate.Execute(bad.l)
		wantError(t, "Execute", events, e, bad.e)
		want(t, "the number beside an error", next, 0)
		for _, last := range list(0, 256, -1, 257) {
			l, e := gate.Lost(bad.l, last)
			wantError(t, "Lost", l, e, bad.e)
		}
	}
}

func TestVote(t *testing.T) {
	for _, row := range []struct {
		l    []int
		want int
		e    api.Errno
	}{
		{list(10, 10, 12), 10, api.OK}, {list(10, 12), 0, api.ErrNone}, // example 5
		{nil, 0, api.ErrNone}, {list(0), 0, api.OK}, {list(1000), 1000, api.OK}, {list(12, 10, 10), 10, api.OK}, {list(10, 12, 10), 10, api.OK}, {list(5, 5), 5, api.OK}, {list(1, 2, 3), 0, api.ErrNone}, {list(1, 1, 2, 2), 0, api.ErrNone}, {list(1, 1, 2, 1), 1, api.OK}, {list(1, 1, 2, 3), 0, api.ErrNone}, {list(1, 2, 2, 3, 2), 2, api.OK},
		{list(7, 7, 7, 7, 8, 8, 8, 8, 8), 8, api.OK}, {list(7, 7, 7, 7, 8, 8, 8, 8, 9), 0, api.ErrNone}, {list(0, 0, 0, 0, 0, 1, 2, 3, 4), 0, api.OK}, {slices.Repeat(list(1000), 9), 1000, api.OK},
		{make([]int, 10), 0, api.ErrMany}, {slices.Repeat(list(-1), 10), 0, api.ErrMany}, {slices.Repeat(list(-1), 9), 0, api.ErrRange},
	} {
		n, e := gate.Vote(row.l)
		want(t, "Vote", []any{row.l, n, e}, []any{row.l, row.want, row.e})
	}
	for _, n := range outside(1000) {
		for _, l := range [][]int{{n}, {n, n, n}, {5, 5, 5, n}, {1, 2, n}} {
			got, e := gate.Vote(l)
			wantError(t, "Vote", got, e, api.ErrRange)
		}
	}
}

func TestLinesByDefinition(t *testing.T) {
	r := rand.New(rand.NewSource(125))
	for range 2000 {
		most := 1 + r.Intn(12)
		var l []gate.Command
		for range r.Intn(20) {
			n := 1 + r.Intn(most)
			l = append(l, command(n, r.Intn(2), string(rune('a'+n))))
		}
		came := func(n int) bool {
			return slices.ContainsFunc(l, func(x gate.Command) bool { return x.Number == n })
		}
		next := 1
		var events []string
		for ; came(next); next++ {
			events = append(events, string(rune('a'+next)))
		}
		got, n, e := gate.Execute(l)
		want(t, "Execute", []any{got, n, e}, []any{events, next, api.OK})
		last := r.Intn(15)
		var lost []int
		for n := range last {
			if !came(n + 1) {
				lost = append(lost, n+1)
			}
		}
		numbers, e := gate.Lost(l, last)
		want(t, "Lost", []any{numbers, e}, []any{lost, api.OK})
	}
}

func TestVoteByDefinition(t *testing.T) {
	r := rand.New(rand.NewSource(126))
	for range 2000 {
		var l []int
		for range r.Intn(10) {
			l = append(l, r.Intn(2)+r.Intn(2))
		}
		wanted, wrong := 0, api.ErrNone
		for n := range 3 {
			others := slices.DeleteFunc(slices.Clone(l), func(x int) bool { return x == n })
			if len(l)-len(others) > len(others) {
				wanted, wrong = n, api.OK
			}
		}
		n, e := gate.Vote(l)
		want(t, "Vote", []any{l, n, e}, []any{l, wanted, wrong})
	}
}
