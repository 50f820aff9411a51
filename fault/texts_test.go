package fault_test

import (
	"fmt"
	"strings"
	"testing"

	"tideway/api"
	"tideway/fault"
)

// P7.4

const (
	ttBasics = "basic p 8\nbasic q 4\nbasic r 8\n"
	ttCauses = "cause s 1 0 1\n"
	ttGates  = "gate and 0 0 1\ngate or 0 2 3\n"
	ttText   = ttBasics + ttCauses + ttGates // example 6
)

func TestPrint(t *testing.T) {
	for _, row := range []struct {
		x    fault.Tree
		want string
	}{
		{tt(), ttText}, {plain(), ttBasics + ttGates},
		{voting(), "basic a 16\nbasic b 3\nbasic c 5\nbasic d 0\ncause x 2 1 2\ncause y 7 2 3\ngate vote 2 1 2 3\ngate or 0 0 4\ngate and 0 0 4\n"},
		{wide(1, vote(1)), "basic w0 1\ngate vote 1 0\n"}, {fault.Tree{Basics: []fault.Basic{basic("basic", 0)}, Causes: []fault.Cause{cause("cause", 16, 0)}, Gates: []fault.Gate{or(0)}}, "basic basic 0\ncause cause 16 0\ngate or 0 0\n"},
		{wide(12, vote(12)), "basic w0 1\nbasic w1 1\nbasic w2 1\nbasic w3 1\nbasic w4 1\nbasic w5 1\nbasic w6 1\nbasic w7 1\nbasic w8 1\nbasic w9 1\nbasic w10 1\nbasic w11 1\ngate vote 12 0 1 2 3 4 5 6 7 8 9 10 11\n"},
	} {
		s, e := fault.Print(row.x)
		want(t, "Print", []any{s, e}, []any{row.want, api.OK})
		x, i, e := fault.Parse(row.want)
		want(t, "Parse", []any{x, i, e}, []any{row.x, 0, api.OK})
	}
	s, e := fault.Print(most())
	want(t, "Print", []any{len(s) < api.MaxText, e}, []any{true, api.OK})
	x, i, e := fault.Parse(s)
	want(t, "Parse", []any{x, i, e}, []any{most(), 0, api.OK})
}

// parsed is a text with the index of the first wrong line, and its error.
type parsed struct {
	s string
	i int
	e api.Errno
}

func wantParsed(t *testing.T, rows ...parsed) {
	t.Helper()
	for _, row := range rows {
		x, i, e := fault.Parse(row.s)
		what := fmt.Sprintf("%.200q", row.s)
		wantError(t, "Parse of "+what, x, e, row.e)
		want(t, "index of "+what, i, row.i)
	}
}

func TestWrongLines(t *testing.T) {
	wantParsed(t,
		parsed{"\n", 0, api.ErrSyntax}, parsed{"x", 0, api.ErrSyntax}, parsed{"basic p 8", 0, api.ErrSyntax}, parsed{"basic p 8\r\n", 0, api.ErrSyntax}, parsed{" " + ttText, 0, api.ErrSyntax}, parsed{"\n" + ttText, 0, api.ErrSyntax}, parsed{ttText + "\n", 6, api.ErrSyntax}, parsed{ttText + " ", 6, api.ErrSyntax}, parsed{ttText[:len(ttText)-1], 5, api.ErrSyntax}, parsed{ttText + "gate or 0 0", 6, api.ErrSyntax}, parsed{ttText + "x or 0 0\n", 6, api.ErrSyntax},
	)
	for _, first := range []string{"basic", "cause", "gate"} {
		for _, rest := range []string{
			"", " ", " a", " a ", "  8", "  a 8", " a  8", " a 8 ", " 8", "\ta 8", " a\t8", "s a 8", ".a 8", " a x", " a -", " a -1", " a -0", " a +1", " a 00", " a 01", " a 08", " a 1.0", " a 1e1", " a 1000000000", " a 0000000001", " a 99999999999999999999", " a ٣", " a 1\x00", " a 8\r", " a 0x1", " a 1_0", " a b 8", " a 8 x", " a 8 -1", " a 8  1", " a 8 01", " a 8 1 ", " a 8 1 1000000000",
		} {
			wantParsed(t, parsed{first + rest + "\n", 0, api.ErrSyntax}, parsed{ttBasics + first + rest + "\nx\n", 3, api.ErrSyntax})
		}
		for _, line := range []string{" " + first + " a 8", strings.ToUpper(first) + " a 8", first[1:] + " a 8", first + first + " a 8", "a 8", "8", "a " + first + " 8"} {
			wantParsed(t, parsed{line + "\n", 0, api.ErrSyntax}, parsed{ttBasics + line + "\nx\n", 3, api.ErrSyntax})
		}
	}
	// A basic event has one integer, the others have at least one.
	wantParsed(t,
		parsed{"basic p 8 0\n", 0, api.ErrSyntax}, parsed{"basic p 8 0 1\n" + ttText, 0, api.ErrSyntax}, parsed{ttBasics + "cause s 1\n" + ttGates, 6, api.ErrEmpty}, parsed{ttBasics + ttCauses + "gate and 0\n", 5, api.ErrEmpty}, parsed{ttBasics + "cause s 1 0 1 2\n" + ttGates, 0, api.OK}, parsed{ttText + "gate vote 5 0 1 2 3 4\n", 0, api.OK},
	)
}

func TestPlacesOfLines(t *testing.T) {
	wantParsed(t,
		parsed{ttCauses + ttBasics + ttGates, 1, api.ErrSyntax}, parsed{ttGates + ttBasics, 2, api.ErrSyntax}, parsed{ttBasics + ttGates + ttCauses, 5, api.ErrSyntax}, parsed{ttText + "basic x 8\n", 6, api.ErrSyntax}, parsed{ttText + "cause x 8 0\n", 6, api.ErrSyntax}, parsed{ttBasics + ttCauses + "basic x 8\n" + ttGates, 4, api.ErrSyntax}, parsed{ttBasics + "gate or 0 0\ncause s 1 0\nx\n", 4, api.ErrSyntax}, parsed{"gate or 0\nbasic p 8\n", 1, api.ErrSyntax},
		parsed{ttBasics + ttCauses + "cause t 0 2\n" + ttGates + "gate and 0 0\n", 0, api.OK},
	)
}

// What CheckTree refuses is found if all lines have their form.
func TestWrongTreesOfTexts(t *testing.T) {
	wantParsed(t,
		parsed{"", 0, api.ErrEmpty}, parsed{ttGates, 2, api.ErrEmpty}, parsed{ttCauses, 1, api.ErrEmpty}, parsed{ttBasics, 3, api.ErrEmpty}, parsed{ttBasics + ttCauses, 4, api.ErrEmpty}, parsed{"basic p 999999999\n", 1, api.ErrEmpty},
		parsed{strings.Repeat("basic p 8\n", 13) + ttGates, 15, api.ErrMany}, parsed{strings.Repeat("basic p 8\n", 3) + strings.Repeat("cause p 8\n", 10) + ttGates, 15, api.ErrMany}, parsed{ttBasics + strings.Repeat("gate or 0 0\n", 33), 36, api.ErrMany}, parsed{ttBasics + strings.Repeat("gate or 0 0\n", 32), 0, api.OK},
		parsed{"basic 9 8\ngate or 0 0\n", 2, api.ErrName}, parsed{"basic a\t 8\ngate or 0 0\n", 2, api.ErrName}, parsed{"basic \xff 8\ngate or 0 0\n", 2, api.ErrName}, parsed{"basic " + strings.Repeat("a", 25) + " 8\ngate or 0 0\n", 2, api.ErrName}, parsed{"basic p 17\ngate or 0 0\n", 2, api.ErrRange}, parsed{"basic p 999999999\ngate or 0 0\n", 2, api.ErrRange}, parsed{"basic p 1\nbasic p 2\ngate or 0 0\n", 3, api.ErrTwice},
		parsed{ttBasics + "cause 1 1 1\n" + ttGates, 6, api.ErrName}, parsed{ttBasics + "cause s 17 0\n" + ttGates, 6, api.ErrRange}, parsed{ttBasics + "cause p 1 0\n" + ttGates, 6, api.ErrTwice}, parsed{ttBasics + "cause s 1 3\n" + ttGates, 6, api.ErrUnknown}, parsed{ttBasics + "cause s 1 1 0\n" + ttGates, 6, api.ErrOrder}, parsed{ttBasics + "cause s 1 0 999999999 0\n" + ttGates, 6, api.ErrUnknown},
		parsed{ttText + "gate not 0 0\n", 7, api.ErrKind}, parsed{ttText + "gate 0 0 0\n", 7, api.ErrKind}, parsed{ttText + "gate or 0 5\n", 7, api.ErrUnknown}, parsed{ttText + "gate or 0 1 0\n", 7, api.ErrOrder}, parsed{ttText + "gate or 1 0\n", 7, api.ErrRange}, parsed{ttText + "gate vote 0 0\n", 7, api.ErrRange}, parsed{ttText + "gate vote 2 0\n", 7, api.ErrRange}, parsed{ttText + "gate or 0" + strings.Repeat(" 0", 13) + "\n", 7, api.ErrMany},
	)
}

func TestLongTexts(t *testing.T) {
	wantParsed(t,
		parsed{strings.Repeat("x", 4097), 0, api.ErrLong}, parsed{strings.Repeat("x", 4096), 0, api.ErrSyntax}, parsed{ttText + strings.Repeat("\n", 4097-len(ttText)), 0, api.ErrLong}, parsed{ttText + strings.Repeat("\n", 4096-len(ttText)), 6, api.ErrSyntax}, parsed{strings.Repeat("\n", 100000), 0, api.ErrLong},
		parsed{"basic " + strings.Repeat("p", 4096-9) + " 8\n", 1, api.ErrEmpty}, parsed{"basic " + strings.Repeat("p", 4097-9) + " 8\n", 0, api.ErrLong},
	)
}
