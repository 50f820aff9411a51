package safety_test

import (
	"fmt"
	"strings"
	"testing"

	"tideway/api"
	"tideway/safety"
)

// P9.5

// exampleText is the text of the example. The lines of top and e2 are those of the chapter's example 6.
const exampleText = "version model 2\nversion gate 1\nevidence e1 model 2\nevidence e2 gate 1 model 1\nevidence e3\nclaim safe all e1 e3\nclaim shut any e2 e3\nclaim top all safe shut\n"

func TestPrint(t *testing.T) {
	long := strings.Repeat("Z", 24)
	for _, row := range []struct {
		c    safety.Case
		want string
	}{
		{example(), exampleText}, {safety.Case{}, ""}, {safety.Case{Versions: []safety.Version{version(long, 999), version("version", 0)}}, "version " + long + " 999\nversion version 0\n"},
		{safety.Case{Evidence: []safety.Evidence{evidence("evidence"), evidence(long)}}, "evidence evidence\nevidence " + long + "\n"},
		{safety.Case{Versions: []safety.Version{version("all", 10)}, Evidence: []safety.Evidence{evidence("all", version("all", 100)), evidence("any")}, Claims: []safety.Claim{some("claim", "any all"), all("b", "claim")}}, "version all 10\nevidence all all 100\nevidence any\nclaim claim any any all\nclaim b all claim\n"},
	} {
		s, e := safety.Print(row.c)
		want(t, "Print", []any{s, e}, []any{row.want, api.OK})
		c, i, e := safety.Parse(row.want)
		want(t, "Parse", []any{c, i, e}, []any{row.c, 0, api.OK})
	}
}

// sized is a case whose text has so many bytes, which are about as many as a text may have.
func sized(bytes int) safety.Case {
	var c safety.Case
	for _, thing := range series("t"+strings.Repeat("x", 20), 64) {
		c.Versions = append(c.Versions, version(thing, 0)) // 35 bytes
	}
	for _, name := range series("e"+strings.Repeat("x", 20), 54) {
		c.Evidence = append(c.Evidence, evidence(name)) // 34 bytes
	}
	rest := bytes - 64*35 - 54*34 - len("evidence \n")
	c.Evidence = append(c.Evidence, evidence(strings.Repeat("f", rest)))
	return c
}

func TestLongTexts(t *testing.T) {
	for bytes, wanted := range map[int]api.Errno{4095: api.OK, 4096: api.OK, 4097: api.ErrLong, 4100: api.ErrLong} {
		c := sized(bytes)
		want(t, "CheckCase", safety.CheckCase(c), api.OK)
		s, e := safety.Print(c)
		wantError(t, "Print", s, e, wanted)
		if e == api.OK {
			again, i, e := safety.Parse(s)
			want(t, "Parse", []any{len(s), again, i, e}, []any{bytes, c, 0, api.OK})
		}
	}
	s, e := safety.Print(fullCase())
	wantError(t, "Print", s, e, api.ErrLong)
	wantParsed(t,
		parsed{strings.Repeat("x", 4097), 0, api.ErrLong}, parsed{strings.Repeat("x", 4096), 0, api.ErrSyntax}, parsed{strings.Repeat("\n", 100000), 0, api.ErrLong}, parsed{exampleText + strings.Repeat("\n", 4097-len(exampleText)), 0, api.ErrLong}, parsed{exampleText + strings.Repeat("\n", 4096-len(exampleText)), 8, api.ErrSyntax},
		parsed{"evidence " + strings.Repeat("e", 4096-10) + "\n", 1, api.ErrName}, parsed{"evidence " + strings.Repeat("e", 4097-10) + "\n", 0, api.ErrLong},
	)
}

// parsed is a text with the index of the first wrong line, and its error.
type parsed struct {
	s string
	i int
	e api.Errno
}

func wantParsed(t *testing.T, rows ...parsed) {
	t.Helper()
	for _, row := range rows {
		c, i, e := safety.Parse(row.s)
		what := fmt.Sprintf("%.200q", row.s)
		wantError(t, "Parse of "+what, c, e, row.e)
		want(t, "index of "+what, i, row.i)
	}
}

func TestWrongLines(t *testing.T) {
	wantParsed(t,
		parsed{"\n", 0, api.ErrSyntax}, parsed{"x", 0, api.ErrSyntax}, parsed{"version a 1", 0, api.ErrSyntax}, parsed{"evidence a", 0, api.ErrSyntax}, parsed{"claim a all b", 0, api.ErrSyntax}, parsed{" " + exampleText, 0, api.ErrSyntax}, parsed{"\n" + exampleText, 0, api.ErrSyntax}, parsed{exampleText + "\n", 8, api.ErrSyntax}, parsed{exampleText + " ", 8, api.ErrSyntax}, parsed{exampleText[:len(exampleText)-1], 7, api.ErrSyntax}, parsed{strings.ReplaceAll(exampleText, "\n", "\r\n"), 0, api.ErrSyntax},
	)
	for _, line := range []string{
		"", " ", "version", "version ", "version  1", "version a", "version a ", "version a  1", "version a 1 ", " version a 1", "version a 1 2", "version a 1 b 2", "version a b", "version 1 a", "version a -1", "version a -0", "version a +1", "version a 01", "version a 00", "version a 1.0", "version a 1e1", "version a 0x1", "version a 1_0", "version a ٣", "version a 1000000000", "version a 0000000001", "version a 99999999999999999999", "version a\t1", "versions a 1", "versio a 1", "Version a 1", "a 1", "1",
		"evidence", "evidence ", "evidence  ", "evidence a ", " evidence a", "evidence  a", "evidence a b", "evidence a b ", "evidence a b  1", "evidence a  b 1", "evidence a  1", "evidence a b 1 ", "evidence a b 1 c", "evidence a b 1 c ", "evidence a b 1  2", "evidence a b 1 c d", "evidence a b -1", "evidence a b 01", "evidence a b 1 c +1", "evidence a b 1000000000", "evidence a b 1 c 2 d 1000000000", "evidence a 1", "evidences a", "Evidence a", "e a",
		"claim", "claim ", "claim  all b", "claim a", "claim a ", "claim a b", "claim a b c", "claim a All b", "claim a all ", "claim a all  b", "claim a all b ", "claim a all b  c", " claim a all b", "claim a  all b", "claim a anyone b", "claim a alll b", "claim a al b", "claim a 1 b", "claims a all b", "Claim a all b", "claim all a b", "a all b", "all a b",
	} {
		wantParsed(t, parsed{line + "\n", 0, api.ErrSyntax}, parsed{"version a 1\n" + line + "\nx\n", 1, api.ErrSyntax}, parsed{"version a 1\nevidence 9 b 9\n" + line + "\n", 2, api.ErrSyntax}, parsed{exampleText + line + "\nx\n", 8, api.ErrSyntax})
	}
}

// Each kind of lines has its place.
func TestLinesInOrder(t *testing.T) {
	wantParsed(t,
		parsed{"evidence a\nversion b 1\n", 1, api.ErrSyntax}, parsed{"evidence a\nclaim c all a\nversion b 1\n", 2, api.ErrSyntax}, parsed{"claim c all a\nversion b 1\n", 1, api.ErrSyntax}, parsed{"claim c all a\nevidence a\n", 1, api.ErrSyntax}, parsed{"version b 1\nclaim c all a\nevidence a\n", 2, api.ErrSyntax}, parsed{"version b 1\nevidence a\nversion c 1\n", 2, api.ErrSyntax}, parsed{exampleText + "version c 1\n", 8, api.ErrSyntax}, parsed{exampleText + "evidence e4\n", 8, api.ErrSyntax},
		parsed{"version b 1\nversion c 1\n", 0, api.OK}, parsed{"evidence a\nevidence b\nclaim c any b a\n", 0, api.OK}, parsed{"version b 1\nevidence a\n", 0, api.OK}, parsed{exampleText + "claim x any e1\n", 0, api.OK}, parsed{"", 0, api.OK},
	)
}

// What CheckCase refuses is found if all lines have their form.
func TestWrongCasesOfTexts(t *testing.T) {
	long := strings.Repeat("a", 24)
	wantParsed(t,
		parsed{"version 9 1\n", 1, api.ErrName}, parsed{"version a\t 1\n", 1, api.ErrName}, parsed{"version \xff 1\n", 1, api.ErrName}, parsed{"version " + long + " 1\n", 0, api.OK}, parsed{"version " + long + "a 1\n", 1, api.ErrName}, parsed{"version a 1000\n", 1, api.ErrRange}, parsed{"version a 999\n", 0, api.OK}, parsed{"version a 999999999\n", 1, api.ErrRange}, parsed{"version a 1\nversion a 1\n", 2, api.ErrTwice}, parsed{strings.Repeat("version a 1\n", 65), 65, api.ErrMany}, parsed{strings.Repeat("version a 1\n", 64), 64, api.ErrTwice}, parsed{strings.Repeat("version a 1\n", 65) + "x\n", 65, api.ErrSyntax},
		parsed{"evidence 9\n", 1, api.ErrName}, parsed{"evidence a\nevidence a\n", 2, api.ErrTwice}, parsed{"version b 1\nevidence a" + strings.Repeat(" b 1", 17) + "\n", 2, api.ErrMany}, parsed{"version b 1\nevidence a" + strings.Repeat(" b 1", 16) + "\n", 2, api.ErrTwice}, parsed{"version b 1\nevidence a c 1\n", 2, api.ErrUnknown}, parsed{"version b 1\nevidence a b 1000\n", 2, api.ErrRange}, parsed{"version b 1\nevidence a b 0\n", 0, api.OK}, parsed{"version 9 1\nevidence a 9 0\n", 2, api.ErrName}, parsed{strings.Repeat("evidence a\n", 65), 65, api.ErrMany},
		parsed{"evidence a\nclaim 9 all a\n", 2, api.ErrName}, parsed{"evidence a\nclaim a all a\n", 2, api.ErrTwice}, parsed{"evidence a\nclaim c all\n", 2, api.ErrEmpty}, parsed{"evidence a\nclaim c any\n", 2, api.ErrEmpty}, parsed{"evidence a\nclaim c all" + strings.Repeat(" a", 17) + "\n", 2, api.ErrMany}, parsed{"evidence a\nclaim c all" + strings.Repeat(" a", 16) + "\n", 2, api.ErrTwice}, parsed{"evidence a\nclaim c all c\n", 2, api.ErrUnknown}, parsed{"evidence a\nclaim c all d\nclaim d all a\n", 3, api.ErrUnknown}, parsed{exampleText + "claim x all e1 \xff\n", 9, api.ErrUnknown}, parsed{strings.Repeat("claim a all\n", 65), 65, api.ErrMany},
	)
}
