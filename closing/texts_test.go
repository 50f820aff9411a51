package closing_test

import (
	"fmt"
	"strings"
	"testing"

	"tideway/api"
	"tideway/closing"
)

// P8.2

// ppText is the text of P. The line of lower is that of the chapter's example 6.
const ppText = "phase crew 2 4\nphase ships 1 6\nphase lower 3 3 0 1\nphase seal 1 2 2\n"

func TestPrint(t *testing.T) {
	full := row(16, 0, 1000)
	full[15].Before = members(1<<15 - 1)
	for _, row := range []struct {
		l    []closing.Phase
		want string
	}{
		{pp(), ppText}, {nil, ""}, {[]closing.Phase{phase("phase", 0, 0)}, "phase phase 0 0\n"}, {[]closing.Phase{phase(strings.Repeat("Z", 24), 10, 1000)}, "phase " + strings.Repeat("Z", 24) + " 10 1000\n"},
		{full, "phase r0 0 1000\nphase r1 0 1000 0\nphase r2 0 1000 1\nphase r3 0 1000 2\nphase r4 0 1000 3\nphase r5 0 1000 4\nphase r6 0 1000 5\nphase r7 0 1000 6\nphase r8 0 1000 7\nphase r9 0 1000 8\nphase r10 0 1000 9\nphase r11 0 1000 10\nphase r12 0 1000 11\nphase r13 0 1000 12\nphase r14 0 1000 13\nphase r15 0 1000 0 1 2 3 4 5 6 7 8 9 10 11 12 13 14\n"},
	} {
		s, e := closing.Print(row.l)
		want(t, "Print", []any{s, e}, []any{row.want, api.OK})
		l, i, e := closing.Parse(row.want)
		want(t, "Parse", []any{l, i, e}, []any{row.l, 0, api.OK})
	}
}

// parsed is a text with the index of the first wrong line, and its error.
type parsed struct {
	s string
	i int
	e api.Errno
}

func wantParsed(t *testing.T, rows ...parsed) {
	t.Helper()
	for _, row := range rows {
		l, i, e := closing.Parse(row.s)
		what := fmt.Sprintf("%.200q", row.s)
		wantError(t, "Parse of "+what, l, e, row.e)
		want(t, "index of "+what, i, row.i)
	}
}

func TestWrongLines(t *testing.T) {
	wantParsed(t,
		parsed{"\n", 0, api.ErrSyntax}, parsed{"x", 0, api.ErrSyntax}, parsed{"phase a 1 2", 0, api.ErrSyntax}, parsed{"phase a 1 2\r\n", 0, api.ErrSyntax}, parsed{" " + ppText, 0, api.ErrSyntax}, parsed{"\n" + ppText, 0, api.ErrSyntax}, parsed{ppText + "\n", 4, api.ErrSyntax}, parsed{ppText + " ", 4, api.ErrSyntax}, parsed{ppText[:len(ppText)-1], 3, api.ErrSyntax}, parsed{ppText + "phase x 1 2", 4, api.ErrSyntax},
	)
	for _, line := range []string{
		"", " ", "phase", "phase ", "phase a", "phase a ", "phase a 1", "phase a 1 ", "phase  1 2", "phase  a 1 2", "phase a  1 2", "phase a 1  2", "phase a 1 2 ", " phase a 1 2", "phase 1 2", "\tphase a 1 2", "phase a\t1 2", "phase a 1\t2", "phases a 1 2", "phas a 1 2", "Phase a 1 2", "PHASE a 1 2", "a 1 2", "1 2", "a phase 1 2", "phase a b 1 2",
		"phase a x 2", "phase a 1 x", "phase a -1 2", "phase a 1 -2", "phase a -0 2", "phase a +1 2", "phase a 01 2", "phase a 1 02", "phase a 00 2", "phase a 1.0 2", "phase a 1e1 2", "phase a 0x1 2", "phase a 1_0 20", "phase a ٣ 4", "phase a 1000000000 2", "phase a 1 1000000000", "phase a 0000000001 2", "phase a 1 99999999999999999999", "phase a 1 2\x00", "phase a 1 2 x", "phase a 1 2 -1", "phase a 1 2 00", "phase a 1 2  0", "phase a 1 2 0 ", "phase a 1 2 0 1000000000", "phase a 1 2 0 1 2 3 4 x",
	} {
		wantParsed(t, parsed{line + "\n", 0, api.ErrSyntax}, parsed{ppText + line + "\nx\n", 4, api.ErrSyntax}, parsed{"phase 9 9 1 9\n" + line + "\n" + ppText, 1, api.ErrSyntax})
	}
}

// What CheckPlan refuses is found if all lines have their form.
func TestWrongPlansOfTexts(t *testing.T) {
	wantParsed(t,
		parsed{strings.Repeat("phase a 1 2\n", 17), 17, api.ErrMany}, parsed{strings.Repeat("phase a 1 2\n", 16), 16, api.ErrTwice}, parsed{strings.Repeat("phase 9 1 2\n", 1000), 1000, api.ErrMany}, parsed{strings.Repeat("phase a 1 2\n", 17) + "x", 17, api.ErrSyntax},
		parsed{"phase 9 1 2\n", 1, api.ErrName}, parsed{ppText + "phase a- 1 2\n", 5, api.ErrName}, parsed{"phase a\t 1 2\n", 1, api.ErrName}, parsed{"phase \xff 1 2\n", 1, api.ErrName}, parsed{"phase " + strings.Repeat("a", 25) + " 1 2\n", 1, api.ErrName}, parsed{"phase " + strings.Repeat("a", 24) + " 1 2\n", 0, api.OK}, parsed{"phase \" 1 2\n" + ppText, 5, api.ErrName},
		parsed{ppText + "phase crew 1 2\n", 5, api.ErrTwice}, parsed{ppText + "phase a 1001 1002\n", 5, api.ErrRange}, parsed{ppText + "phase a 1 1001\n", 5, api.ErrRange}, parsed{ppText + "phase a 1 999999999\n", 5, api.ErrRange}, parsed{ppText + "phase a 2 1\n", 5, api.ErrOrder}, parsed{ppText + "phase a 1 2 4\n", 5, api.ErrUnknown}, parsed{ppText + "phase a 1 2 3 999999999\n", 5, api.ErrUnknown}, parsed{ppText + "phase a 1 2 3 2\n", 5, api.ErrOrder}, parsed{ppText + "phase a 1 2 3 3\n", 5, api.ErrOrder}, parsed{ppText + "phase a 1 2 0 1 2 3\n", 0, api.OK}, parsed{"phase a 1 2 0\n" + ppText, 5, api.ErrUnknown},
	)
}

func TestLongTexts(t *testing.T) {
	wantParsed(t,
		parsed{strings.Repeat("x", 1000001), 0, api.ErrLong}, parsed{strings.Repeat("x", 1000000), 0, api.ErrSyntax}, parsed{ppText + strings.Repeat("\n", 1000001-len(ppText)), 0, api.ErrLong}, parsed{ppText + strings.Repeat("\n", 1000000-len(ppText)), 4, api.ErrSyntax}, parsed{strings.Repeat("\n", 3000000), 0, api.ErrLong},
		parsed{"phase " + strings.Repeat("p", 1000000-11) + " 1 2\n", 1, api.ErrName}, parsed{"phase " + strings.Repeat("p", 1000001-11) + " 1 2\n", 0, api.ErrLong}, parsed{"phase p 1 2" + strings.Repeat(" 0", (1000000-12)/2) + "\n", 1, api.ErrUnknown},
	)
}
