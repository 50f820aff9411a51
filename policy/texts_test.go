package policy_test

import (
	"fmt"
	"math"
	"slices"
	"strings"
	"testing"

	"tideway/api"
	"tideway/policy"
)

// P5.4: texts

const spText = "0 open\n0 0 close\n0 1 open\n" // example 6

// long is a policy with so many rules for as many classes.
func long(rules, classes int) policy.Policy {
	return ruled(slices.Repeat([][]int{slices.Repeat(list(9), classes)}, rules), slices.Repeat([]bool{true}, rules)...)
}

func TestPrint(t *testing.T) {
	for _, row := range []struct {
		p    policy.Policy
		want string
	}{
		{sp(false, true, false), spText}, {sp(true, false, true), "0 close\n0 0 open\n0 1 close\n"}, {policy.Policy{}, ""},
		// The policy need not belong to a season.
		{ruled([][]int{{9, 8, 7, 6, 5, 4}, {1}, {1}, {3, 2}}, true, false, true, false), "9 8 7 6 5 4 close\n1 open\n1 close\n3 2 open\n"},
		{long(48, 6), strings.Repeat("9 9 9 9 9 9 close\n", 48)},
	} {
		s, e := policy.Print(row.p)
		want(t, "Print", []any{s, e}, []any{row.want, api.OK})
		p, i, e := policy.Parse(row.want)
		want(t, "Parse", []any{p, i, e}, []any{row.p, 0, api.OK})
	}
}

func TestErrorsOfPrint(t *testing.T) {
	check := func(wanted api.Errno, histories ...[]int) {
		t.Helper()
		s, e := policy.Print(ruled(histories, make([]bool, len(histories))...))
		wantError(t, "Print", s, e, wanted)
	}
	check(api.ErrEmpty, nil)
	check(api.ErrEmpty, list(0), nil)
	check(api.ErrMany, list(0), make([]int, 7))
	check(api.ErrMany, list(-1, 10, 0, 0, 0, 0, 0))
	for _, n := range []int{math.MinInt, -1, 10, math.MaxInt} {
		check(api.ErrRange, list(n))
		check(api.ErrRange, list(0), list(0, 0, 0, 0, 0, n))
		check(api.ErrRange, list(0, n), nil)
	}
	check(api.ErrEmpty, nil, make([]int, 7))
	check(api.ErrMany, make([]int, 7), list(-1))
	check(api.ErrMany, slices.Repeat([][]int{{0}}, 49)...)
	check(api.ErrMany, make([][]int, 49)...)
	check(api.ErrEmpty, make([][]int, 48)...)
	check(api.ErrRange, slices.Repeat([][]int{{10}}, 48)...)
}

func TestParseErrors(t *testing.T) {
	const line = "0 open\n"
	for _, row := range []struct {
		s string
		i int
		e api.Errno
	}{
		{spText, 0, api.OK}, {"", 0, api.OK}, {line, 0, api.OK}, {line + line, 0, api.OK}, {"0 1 2 3 4 5 close\n", 0, api.OK},
		{"\n", 0, api.ErrSyntax}, {"x", 0, api.ErrSyntax}, {line + "\n", 1, api.ErrSyntax}, {"\n" + line, 0, api.ErrSyntax}, {"0 open", 0, api.ErrSyntax}, {line + "0 close", 1, api.ErrSyntax}, {"open", 0, api.ErrSyntax}, {line + " ", 1, api.ErrSyntax}, {"0 open\r\n", 0, api.ErrSyntax}, {line + line + "\n\n", 2, api.ErrSyntax},
		{"0\n", 0, api.ErrSyntax}, {"0 \n", 0, api.ErrSyntax}, {"0 0\n", 0, api.ErrSyntax}, {" open\n", 0, api.ErrSyntax}, {" 0 open\n", 0, api.ErrSyntax}, {"0  open\n", 0, api.ErrSyntax}, {"0 open \n", 0, api.ErrSyntax}, {"0  0 open\n", 0, api.ErrSyntax}, {"0\topen\n", 0, api.ErrSyntax}, {"open 0\n", 0, api.ErrSyntax}, {"0 open close\n", 0, api.ErrSyntax}, {"open open\n", 0, api.ErrSyntax}, {"0 open 0 open\n", 0, api.ErrSyntax},
		{"0 Open\n", 0, api.ErrSyntax}, {"0 opens\n", 0, api.ErrSyntax}, {"0 ope\n", 0, api.ErrSyntax}, {"0 closed\n", 0, api.ErrSyntax}, {"0 CLOSE\n", 0, api.ErrSyntax}, {"0 close\x00\n", 0, api.ErrSyntax}, {"0 openclose\n", 0, api.ErrSyntax}, {"0open\n", 0, api.ErrSyntax},
		{"10 open\n", 0, api.ErrSyntax}, {"00 open\n", 0, api.ErrSyntax}, {"-1 open\n", 0, api.ErrSyntax}, {"-0 open\n", 0, api.ErrSyntax}, {"- open\n", 0, api.ErrSyntax}, {"+1 open\n", 0, api.ErrSyntax}, {"x open\n", 0, api.ErrSyntax}, {"0 x open\n", 0, api.ErrSyntax}, {"x 0 open\n", 0, api.ErrSyntax}, {"٣ open\n", 0, api.ErrSyntax}, {"\xff open\n", 0, api.ErrSyntax}, {"/ open\n", 0, api.ErrSyntax}, {": open\n", 0, api.ErrSyntax}, {"0 0 0 0 0 0 0 0 x open\n", 0, api.ErrSyntax},
		{line + "0 open\n0 closed\n0 open\nx\n", 2, api.ErrSyntax},
		// What Print refuses is found if all lines have their form.
		{"open\n", 1, api.ErrEmpty}, {"close\n", 1, api.ErrEmpty}, {line + "close\n" + line, 3, api.ErrEmpty}, {"close\n0\n", 1, api.ErrSyntax}, {"0 0 0 0 0 0 0 open\n", 1, api.ErrMany}, {line + "0 0 0 0 0 0 0 open\nopen\n", 3, api.ErrMany}, {"open\n0 0 0 0 0 0 0 open\n", 2, api.ErrEmpty},
		{strings.Repeat(line, 48), 0, api.OK}, {strings.Repeat(line, 49), 49, api.ErrMany}, {strings.Repeat("open\n", 49), 49, api.ErrMany}, {strings.Repeat("open\n", 48), 48, api.ErrEmpty}, {strings.Repeat(line, 49) + "0", 49, api.ErrSyntax},
	} {
		p, i, e := policy.Parse(row.s)
		wantError(t, fmt.Sprintf("Parse of %q", row.s), p, e, row.e)
		want(t, fmt.Sprintf("index of %q", row.s), i, row.i)
	}
}

func TestParseLong(t *testing.T) {
	for _, row := range []struct {
		s string
		i int
		e api.Errno
	}{
		{strings.Repeat("0 ", 2045) + "close\n", 1, api.ErrMany}, {strings.Repeat("0 ", 2046) + "open\n", 0, api.ErrLong}, {strings.Repeat("\n", 4096), 0, api.ErrSyntax}, {strings.Repeat("\n", 4097), 0, api.ErrLong}, {spText + strings.Repeat("x", 4096), 0, api.ErrLong},
		{strings.Repeat("0 open\n", 585) + "\n", 585, api.ErrSyntax}, {strings.Repeat("0 open\n", 585), 585, api.ErrMany}, {strings.Repeat("0 open\n", 586), 0, api.ErrLong},
	} {
		p, i, e := policy.Parse(row.s)
		wantError(t, fmt.Sprintf("Parse of %d bytes", len(row.s)), p, e, row.e)
		want(t, fmt.Sprintf("index of %d bytes", len(row.s)), i, row.i)
	}
}
