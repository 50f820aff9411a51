package basin_test

import (
	"fmt"
	"strings"
	"testing"

	"tideway/api"
	"tideway/basin"
)

// P4.4

const bbText = "node lake 10 20\nnode polder 5 8\nbarrier -1 0 0 2\npump 1 0 4 10\noutfall 0 -1 12 4\n" // with example 6

func TestPrint(t *testing.T) {
	for _, row := range []struct {
		b    basin.Basin
		want string
	}{
		{bb(), bbText}, {withLinks(), "node lake 10 20\nnode polder 5 8\n"}, {basin.Basin{Nodes: []basin.Node{node("node", 1, 0)}}, "node node 1 0\n"},
		{withLinks(link("leak", -1, 1, 0, 1000), link("weir", 0, 1, 1024, 1), link("leak", -1, 1, 0, 1000)), "node lake 10 20\nnode polder 5 8\nleak -1 1 0 1000\nweir 0 1 1024 1\nleak -1 1 0 1000\n"},
	} {
		s, e := basin.Print(row.b)
		want(t, "Print", []any{s, e}, []any{row.want, api.OK})
		b, i, e := basin.Parse(row.want)
		want(t, "Parse", []any{b, i, e}, []any{row.b, 0, api.OK})
	}
	for _, bad := range badBasins() {
		s, e := basin.Print(bad.b)
		wantError(t, "Print", s, e, bad.e)
	}
}

func TestTheLongestTextComesBack(t *testing.T) {
	s, e := basin.Print(most())
	want(t, "Print", []any{len(s), e}, []any{8*40 + 16*23, api.OK})
	b, i, e := basin.Parse(s)
	want(t, "Parse", []any{b, i, e}, []any{most(), 0, api.OK})
}

func TestParseErrors(t *testing.T) {
	const nodes = "node lake 10 20\nnode polder 5 8\n"
	for _, row := range []struct {
		s string
		i int
		e api.Errno
	}{
		{bbText, 0, api.OK}, {nodes, 0, api.OK}, {nodes + "weir 0 1 0 1\n", 0, api.OK}, {"node lake 10 20\n", 0, api.OK},
		{"", 0, api.ErrEmpty}, {"\n", 0, api.ErrSyntax}, {"x", 0, api.ErrSyntax}, {nodes + "\n", 2, api.ErrSyntax}, {"\n" + nodes, 0, api.ErrSyntax}, {nodes + "weir 0 1 0 1", 2, api.ErrSyntax}, {"node lake 10 20", 0, api.ErrSyntax}, {"node lake 10 20\r\n", 0, api.ErrSyntax}, {nodes + "weir 0 1 0 1\n\n", 3, api.ErrSyntax}, {nodes + " ", 2, api.ErrSyntax},
		{"node\n", 0, api.ErrSyntax}, {"node lake\n", 0, api.ErrSyntax}, {"node lake 10\n", 0, api.ErrSyntax}, {"node lake 10 20 30\n", 0, api.ErrSyntax}, {"node lake 10 20 \n", 0, api.ErrSyntax}, {"node lake 10 20 30 40\n", 0, api.ErrSyntax}, {"node 1 2 3 4\n", 0, api.ErrSyntax}, {"node  10 20\n", 0, api.ErrSyntax}, {"node  lake 10 20\n", 0, api.ErrSyntax}, {"node lake  10 20\n", 0, api.ErrSyntax}, {" node lake 10 20\n", 0, api.ErrSyntax}, {"node\tlake 10 20\n", 0, api.ErrSyntax}, {"node 10 20\n", 0, api.ErrSyntax}, {"node lake x 20\n", 0, api.ErrSyntax}, {"node lake 10 x\n", 0, api.ErrSyntax}, {"node lake 010 20\n", 0, api.ErrSyntax}, {"node lake 10 -0\n", 0, api.ErrSyntax}, {"node lake +10 20\n", 0, api.ErrSyntax}, {"node lake 1000000000 20\n", 0, api.ErrSyntax}, {"node lake 10 2.0\n", 0, api.ErrSyntax}, {"node lake 10 -\n", 0, api.ErrSyntax},
		{nodes + "weir\n", 2, api.ErrSyntax}, {nodes + "weir 0\n", 2, api.ErrSyntax}, {nodes + "weir 0 1 0\n", 2, api.ErrSyntax}, {nodes + "weir 0 1 0 1 2\n", 2, api.ErrSyntax}, {nodes + "weir 0 1 0 1 \n", 2, api.ErrSyntax}, {nodes + " 0 1 0 1\n", 2, api.ErrSyntax}, {nodes + " weir 0 1 0 1\n", 2, api.ErrSyntax}, {nodes + "weir  0 1 0 1\n", 2, api.ErrSyntax}, {nodes + "weir x 1 0 1\n", 2, api.ErrSyntax}, {nodes + "weir 0 x 0 1\n", 2, api.ErrSyntax}, {nodes + "weir 0 1 x 1\n", 2, api.ErrSyntax}, {nodes + "weir 0 1 0 x\n", 2, api.ErrSyntax}, {nodes + "weir 0 1 -0 1\n", 2, api.ErrSyntax}, {nodes + "weir 0 01 0 1\n", 2, api.ErrSyntax}, {nodes + "weir 0 1 0 1000000000\n", 2, api.ErrSyntax}, {nodes + "weir lake polder 0 1\n", 2, api.ErrSyntax}, {nodes + "weir 0 1 0 1\x00\n", 2, api.ErrSyntax},
		// A line of a node stands before all links.
		{"weir 0 1 0 1\n" + nodes, 1, api.ErrSyntax}, {"node lake 10 20\nleak -1 0 0 1\nnode polder 5 8\n", 2, api.ErrSyntax}, {"node lake 10 20\nx 0 0 0 0\nnode polder 5\n", 2, api.ErrSyntax}, {"node lake 10 20\nx 0 0 0 0\nx 0\nnode polder 5 8\n", 2, api.ErrSyntax}, {"x 0 0 0 0\n", 1, api.ErrEmpty}, {"nodes 0 0 0 0\nNode 0 0 0 0\n", 2, api.ErrEmpty}, {nodes + "Node lake 10 20\n", 2, api.ErrSyntax}, {"nodes lake 10 20\n", 0, api.ErrSyntax},
		{"node lake 10 20\nx\ny\n", 1, api.ErrSyntax}, {"node 9 0 -1\nx 0 0 0\n", 1, api.ErrSyntax},
		{strings.Repeat("node a 1 0\n", 9), 9, api.ErrMany}, {"node 9 1 0\n", 1, api.ErrName}, {"node a\t 1 0\n", 1, api.ErrName}, {"node -1 1 0\nnode -1 1 0\n", 2, api.ErrName}, {"node lake 10 20\nnode lake 0 0\n", 2, api.ErrTwice}, {"node lake 0 20\n", 1, api.ErrRange}, {"node lake -10 20\n", 1, api.ErrRange}, {"node lake 1001 20\n", 1, api.ErrRange}, {"node lake 10 1025\n", 1, api.ErrRange}, {"node lake 10 -999999999\n", 1, api.ErrRange}, {"node lake 999999999 20\n", 1, api.ErrRange},
		{nodes + strings.Repeat("weir 0 1 0 1\n", 16), 0, api.OK}, {nodes + strings.Repeat("weir 0 1 0 1\n", 17), 19, api.ErrMany}, {nodes + "x 0 0 0 0\n", 3, api.ErrKind}, {nodes + "Weir 0 1 0 1\n", 3, api.ErrKind}, {nodes + "weir\t 0 1 0 1\n", 3, api.ErrKind}, {nodes + "1 0 1 0 1\n", 3, api.ErrKind}, {nodes + "weir 0 2 0 1\n", 3, api.ErrUnknown}, {nodes + "weir 0 -1 0 1\n", 3, api.ErrUnknown}, {nodes + "weir 0 0 0 1\n", 3, api.ErrRing}, {nodes + "weir 0 1 -1 1\n", 3, api.ErrRange}, {nodes + "weir 0 1 0 0\n", 3, api.ErrRange}, {nodes + "leak -1 0 1 1\n", 3, api.ErrRange}, {nodes + "weir 0 1 0 999999999\n", 3, api.ErrRange}, {nodes + "weir 0 1 0 1\nweir 0 0 0 1\nx 0 0 0 0\n", 5, api.ErrRing},
	} {
		b, i, e := basin.Parse(row.s)
		wantError(t, fmt.Sprintf("Parse of %q", row.s), b, e, row.e)
		want(t, fmt.Sprintf("index of %q", row.s), i, row.i)
	}
}

func TestParseLong(t *testing.T) {
	const line = "x 12 34 56 78910\n"
	for _, row := range []struct {
		s string
		i int
		e api.Errno
	}{
		{strings.Repeat("x", 4096), 0, api.ErrSyntax}, {strings.Repeat("x", 4097), 0, api.ErrLong}, {bbText + strings.Repeat("\n", 4097), 0, api.ErrLong}, {strings.Repeat("\n", 4096), 0, api.ErrSyntax},
		{strings.Repeat(line, 240) + "x 1 2 3 4567890\n", 241, api.ErrEmpty}, {strings.Repeat(line, 241), 0, api.ErrLong},
	} {
		b, i, e := basin.Parse(row.s)
		wantError(t, fmt.Sprintf("Parse of %d bytes", len(row.s)), b, e, row.e)
		want(t, fmt.Sprintf("index of %d bytes", len(row.s)), i, row.i)
	}
	want(t, "bytes", len(strings.Repeat(line, 240)+"x 1 2 3 4567890\n"), 4096)
}
