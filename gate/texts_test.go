package gate_test

import (
	"fmt"
	"slices"
	"strings"
	"testing"

	"tideway/api"
	"tideway/gate"
)

// P6.1: texts

const (
	ggStates = "state work -1 1 0\nstate open 0 -1 0\nstate lower 0 -1 1\nstate closed 0 -1 0\nstate alarm -1 -1 0\n"
	ggText   = ggStates + "move 1 close 2 1 0\nmove 2 done 3 0 0\nmove 3 open 1 0 0\nmove 0 fail 4 0 0\n"
)

func TestPrint(t *testing.T) {
	for _, row := range []struct {
		c    gate.Chart
		want string
	}{
		{gg(), ggText}, {gate.Chart{States: gg().States}, ggStates}, {with(move(0, "x", 4, 15, 10)), ggText + "move 0 x 4 15 10\n"}, {ambiguous(), ggText + "move 2 done 4 0 0\n"},
		{gate.Chart{States: []gate.State{moving("state", -1)}, Transitions: []gate.Transition{move(0, "move", 0, 8, 8)}}, "state state -1 -1 1\nmove 0 move 0 8 8\n"},
		{changed(func(c *gate.Chart) { c.States[0].Initial, c.Transitions = 3, nil }), strings.Replace(ggStates, "work -1 1", "work -1 3", 1)},
	} {
		s, e := gate.Print(row.c)
		want(t, "Print", []any{s, e}, []any{row.want, api.OK})
		c, i, e := gate.Parse(row.want)
		want(t, "Parse", []any{c, i, e}, []any{row.c, 0, api.OK})
	}
	s, e := gate.Print(most())
	want(t, "Print", []any{len(s), e}, []any{16*39 + 30*41 + 18*42, api.OK})
	c, i, e := gate.Parse(s)
	want(t, "Parse", []any{c, i, e}, []any{most(), 0, api.OK})
}

// parsed is a text with the index of the first wrong line, and its error.
type parsed struct {
	s string
	i int
	e api.Errno
}

func wantParsed(t *testing.T, rows ...parsed) {
	t.Helper()
	for _, row := range rows {
		c, i, e := gate.Parse(row.s)
		what := fmt.Sprintf("%.200q", row.s)
		wantError(t, "Parse of "+what, c, e, row.e)
		want(t, "index of "+what, i, row.i)
	}
}

func TestWrongLines(t *testing.T) {
	wantParsed(t,
		parsed{"\n", 0, api.ErrSyntax}, parsed{"x", 0, api.ErrSyntax}, parsed{"state work -1 -1 0", 0, api.ErrSyntax}, parsed{"state work -1 -1 0\r\n", 0, api.ErrSyntax}, parsed{" " + ggText, 0, api.ErrSyntax}, parsed{"\n" + ggText, 0, api.ErrSyntax}, parsed{ggText + "\n", 9, api.ErrSyntax}, parsed{ggText + " ", 9, api.ErrSyntax}, parsed{ggText + "move 0 fail 4 0 0", 9, api.ErrSyntax}, parsed{ggText + "x 0 fail 4 0 0\n", 9, api.ErrSyntax},
	)
	for _, line := range []string{
		"", " ", "state", "state a", "state a -1", "state a -1 -1", "state a -1 -1 0 0", "state a -1 -1 0 ", "state  -1 -1 0", "state  a -1 -1 0", "state a  -1 -1 0", "state a -1 -1  0", "state\ta -1 -1 0", " state a -1 -1 0", "State a -1 -1 0", "states a -1 -1 0", "stat a -1 -1 0",
		"state a -1 -1 2", "state a -1 -1 -1", "state a -1 -1 -0", "state a -1 -1 01", "state a -1 -1 00", "state a -1 -1 10", "state a -1 -1 true", "state a -1 -1 x", "state a -1 -1 -", "state a -1 -1 +1", "state a -1 -1 0\x00",
		"state a x -1 0", "state a - -1 0", "state a -0 -1 0", "state a 00 -1 0", "state a 01 -1 0", "state a -01 -1 0", "state a +1 -1 0", "state a 1.0 -1 0", "state a 1000000000 -1 0", "state a -1000000000 -1 0", "state a ٣ -1 0", "state a --1 -1 0",
		"state a -1 x 0", "state a -1 - 0", "state a -1 -0 0", "state a -1 01 0", "state a -1 1000000000 0", "state a -1 -1000000000 0", "state -1 -1 0", "a -1 -1 0", "closed 0 -1 0",
	} {
		wantParsed(t, parsed{line + "\n", 0, api.ErrSyntax}, parsed{ggStates + line + "\n" + "x\n", 5, api.ErrSyntax})
	}
	for _, line := range []string{
		"move", "move 1", "move 1 x", "move 1 x 2", "move 1 x 2 1", "move 1 x 2 1 0 0", "move 1 x 2 1 0 ", "move 1  2 1 0", "move  1 x 2 1 0", "move 1  x 2 1 0", "move 1 x  2 1 0", " move 1 x 2 1 0", "move\t1 x 2 1 0", "Move 1 x 2 1 0", "moves 1 x 2 1 0", "mov 1 x 2 1 0", "1 x 2 1 0",
		"move x x 2 1 0", "move - x 2 1 0", "move -0 x 2 1 0", "move 01 x 2 1 0", "move 1000000000 x 2 1 0", "move 1 x x 1 0", "move 1 x -0 1 0", "move 1 x 02 1 0", "move 1 x 2 x 0", "move 1 x 2 01 0", "move 1 x 2 1000000000 0", "move 1 x 2 1 x", "move 1 x 2 1 00", "move 1 x 2 1 -0", "move 1 x 2 1 +0", "move 1 x 2 1 -1000000000", "move x 1 2 1 0", "move 1 2 x 1 0",
	} {
		wantParsed(t, parsed{line + "\n", 0, api.ErrSyntax}, parsed{ggText + line + "\nx\n", 9, api.ErrSyntax})
	}
}

func TestStatesStandBeforeTransitions(t *testing.T) {
	wantParsed(t,
		parsed{"move 0 x 0 0 0\nstate a -1 -1 0\n", 1, api.ErrSyntax}, parsed{ggText + "state a -1 -1 0\n", 9, api.ErrSyntax}, parsed{ggStates + "move 1 x 2 0 0\nstate a -1 -1 0\nmove 1 x 2 0 0\nx\n", 6, api.ErrSyntax},
		parsed{ggStates + "state a -1 -1 0\nmove 1 x 2 0 0\n", 0, api.OK},
	)
}

// What CheckChart refuses is found if all lines have their form.
func TestWrongChartsOfTexts(t *testing.T) {
	wantParsed(t,
		parsed{"", 0, api.ErrEmpty}, parsed{"move 0 x 0 0 0\n", 1, api.ErrEmpty}, parsed{"move 0 x 0 0 0\nmove -9 9 9 9 9\n", 2, api.ErrEmpty}, parsed{"move 0 x 0 0 0\nmove 0 x 0 0\n", 1, api.ErrSyntax},
		parsed{"state 9 -1 -1 0\n", 1, api.ErrName}, parsed{"state a\t -1 -1 0\n", 1, api.ErrName}, parsed{"state a\r -1 -1 0\n", 1, api.ErrName}, parsed{"state \xff -1 -1 0\n", 1, api.ErrName}, parsed{"state -1 -1 -1 0\n", 1, api.ErrName}, parsed{"state " + strings.Repeat("a", 25) + " -1 -1 0\n", 1, api.ErrName},
		parsed{ggStates + "state open -1 -1 0\n", 6, api.ErrTwice}, parsed{"state a 0 -1 0\n", 1, api.ErrOrder}, parsed{"state a -2 -1 0\n", 1, api.ErrOrder}, parsed{"state a 999999999 -1 0\n", 1, api.ErrOrder}, parsed{"state a -999999999 -1 0\n", 1, api.ErrOrder},
		parsed{"state a -1 0 0\n", 1, api.ErrForm}, parsed{"state a -1 999999999 0\n", 1, api.ErrForm}, parsed{"state a -1 -999999999 0\n", 1, api.ErrForm}, parsed{"state a -1 1 1\nstate b 0 -1 0\n", 2, api.ErrForm}, parsed{"state a -1 -1 0\nstate b 0 -1 0\n", 2, api.ErrForm},
		parsed{ggText + "move -1 x 2 1 0\n", 10, api.ErrUnknown}, parsed{ggText + "move 5 x 2 1 0\n", 10, api.ErrUnknown}, parsed{ggText + "move 1 x 5 1 0\n", 10, api.ErrUnknown}, parsed{ggText + "move 1 x -999999999 1 0\n", 10, api.ErrUnknown}, parsed{ggText + "move 1 9 2 1 0\n", 10, api.ErrName}, parsed{ggText + "move 1 -1 2 1 0\n", 10, api.ErrName},
		parsed{ggText + "move 1 x 2 16 0\n", 10, api.ErrRange}, parsed{ggText + "move 1 x 2 -1 0\n", 10, api.ErrRange}, parsed{ggText + "move 1 x 2 999999999 0\n", 10, api.ErrRange}, parsed{ggText + "move 1 x 2 1 -1\n", 10, api.ErrRange}, parsed{ggText + "move 1 x 2 1 2\n", 10, api.ErrForm},
		parsed{ggText + "move 0 a 4 0 0\nmove 0 b 4 0 0\nmove 0 c 4 0 0\nmove 0 d 4 0 0\n", 0, api.OK}, parsed{ggText + "move 0 a 4 0 0\nmove 0 b 4 0 0\nmove 0 c 4 0 0\nmove 0 d 4 0 0\nmove 0 e 4 0 0\n", 14, api.ErrMany},
		parsed{ggText + strings.Repeat("move 0 a 4 0 0\n", 44), 0, api.OK}, parsed{ggText + strings.Repeat("move 0 a 4 0 0\n", 45), 54, api.ErrMany}, parsed{strings.Repeat("state a -1 -1 0\n", 17), 17, api.ErrMany}, parsed{strings.Repeat("state a -1 -1 0\n", 16), 16, api.ErrTwice},
	)
}

func TestPrintOfBadCharts(t *testing.T) {
	for _, bad := range badCharts() {
		s, e := gate.Print(bad.c)
		wantError(t, "Print", s, e, bad.e)
	}
}

func TestParseLong(t *testing.T) {
	const state, transition = "state a -1 -1 0\n", "move 0 ab 0 0 0\n" // 16 bytes each
	longest := strings.Repeat(state, 31250) + strings.Repeat(transition, 31250)
	want(t, "bytes", len(longest), 1000000)
	wantParsed(t,
		parsed{longest, 62500, api.ErrMany}, parsed{longest + "\n", 0, api.ErrLong}, parsed{longest[:999999], 62499, api.ErrSyntax}, parsed{strings.Repeat("\n", 1000000), 0, api.ErrSyntax}, parsed{strings.Repeat("\n", 1000001), 0, api.ErrLong},
		parsed{strings.Repeat(state, 62500), 62500, api.ErrMany}, parsed{ggText + strings.Repeat(transition, 62000), 62009, api.ErrMany},
		parsed{"state " + strings.Repeat("a", 999983) + " -1 -1 0\n", 1, api.ErrName}, parsed{ggText + strings.Repeat("x", 1000000), 0, api.ErrLong},
	)
}

func TestTextsOfChangedCharts(t *testing.T) {
	for _, c := range []gate.Chart{gg(), deep(), ambiguous(), most(), states(16)} {
		s, e := gate.Print(c)
		want(t, "Print", e, api.OK)
		lines := strings.SplitAfter(s, "\n")
		lines = lines[:len(lines)-1]
		want(t, "lines", len(lines), len(c.States)+len(c.Transitions))
		for i := range lines {
			l := slices.Clone(lines)
			l[i] = strings.Replace(l[i], " ", "  ", 1)
			wantParsed(t, parsed{strings.Join(l, ""), i, api.ErrSyntax})
		}
	}
}
