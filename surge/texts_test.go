package surge_test

import (
	"fmt"
	"math"
	"slices"
	"strings"
	"testing"

	"tideway/api"
	"tideway/surge"
)

// P3.6

const runText = "piece 5 a 0 0 16 32\npiece 5 a 0 1 48 96\npiece 5 a 1 0 16 -8\npiece 5 b 1 1 0 -1024\npiece 100000 a 0 0 1024 1\n"

func runStore() []surge.Piece {
	return []surge.Piece{
		piece(5, "a", 0, 0, 1, 2), piece(5, "a", 0, 1, 3, 6), piece(5, "a", 1, 0, 1, -0.5), piece(5, "b", 1, 1, 0, -64), piece(100000, "a", 0, 0, 64, 0.0625),
	}
}

func TestPrint(t *testing.T) {
	minus := float32(math.Copysign(0, -1))
	long := domain(1, 1, 1, strings.Repeat("z", 24))
	for _, row := range []struct {
		d    surge.Domain
		l    []surge.Piece
		want string
	}{
		{dd(), []surge.Piece{piece(5, "a", 1, 0, 1, -0.5)}, "piece 5 a 1 0 16 -8\n"}, // example 6
		{dd(), nil, ""}, {dd(), runStore(), runText}, {dd(), []surge.Piece{piece(0, "b", 0, 0, minus, 0)}, "piece 0 b 0 0 0 0\n"},
		{long, []surge.Piece{piece(7, long.Members[0].Name, 0, 0, -0.0625)}, "piece 7 zzzzzzzzzzzzzzzzzzzzzzzz 0 0 -1\n"},
		{domain(8, 8, 96, "a"), []surge.Piece{piece(7, "a", 95, 7, 0, 1, 2, 3, 4, 5, 6, 7)}, "piece 7 a 95 7 0 16 32 48 64 80 96 112\n"},
	} {
		s, e := surge.Print(row.d, row.l)
		want(t, "Print", []any{s, e}, []any{row.want, api.OK})
		if slices.ContainsFunc(row.l, func(p surge.Piece) bool { return math.Signbit(float64(p.Values[0])) && p.Values[0] == 0 }) {
			continue
		}
		l, i, e := surge.Parse(row.d, row.want)
		want(t, "Parse", []any{l, i, e}, []any{row.l, 0, api.OK})
	}
	for _, bad := range badStores() {
		s, e := surge.Print(bad.d, bad.l)
		wantError(t, "Print", s, e, bad.e)
	}
}

func TestParseErrors(t *testing.T) {
	const good = "piece 5 a 0 0 16 32\n"
	for _, row := range []struct {
		s string
		i int
		e api.Errno
	}{
		{"", 0, api.OK}, {good, 0, api.OK}, {runText, 0, api.OK},
		{"\n", 0, api.ErrSyntax}, {"x", 0, api.ErrSyntax}, {"piece 5 a 0 0 16 32", 0, api.ErrSyntax}, {good + "\n", 1, api.ErrSyntax}, {good + "piece 5 a 0 1 16 32", 1, api.ErrSyntax}, {good + "x", 1, api.ErrSyntax}, {"\n" + good, 0, api.ErrSyntax}, {good + "\n" + good, 1, api.ErrSyntax},
		{"piece\n", 0, api.ErrSyntax}, {"piece 5\n", 0, api.ErrSyntax}, {"piece 5 a\n", 0, api.ErrSyntax}, {"piece 5 a 0\n", 0, api.ErrSyntax}, {"Piece 5 a 0 0 16 32\n", 0, api.ErrSyntax}, {"pieces 5 a 0 0 16 32\n", 0, api.ErrSyntax}, {"5 a 0 0 16 32\n", 0, api.ErrSyntax}, {" piece 5 a 0 0 16 32\n", 0, api.ErrSyntax},
		{"piece  5 a 0 0 16 32\n", 0, api.ErrSyntax}, {"piece 5  a 0 0 16 32\n", 0, api.ErrSyntax}, {"piece 5  0 0 16 32\n", 0, api.ErrSyntax}, {"piece 5 a  0 0 16 32\n", 0, api.ErrSyntax}, {"piece 5 a 0 0  16 32\n", 0, api.ErrSyntax}, {"piece 5 a 0 0 16  32\n", 0, api.ErrSyntax}, {"piece 5 a 0 0 16 32 \n", 0, api.ErrSyntax}, {"piece 5 a 0 0 \n", 0, api.ErrSyntax}, {"piece 5 a 0 \n", 0, api.ErrSyntax}, {"piece\t5 a 0 0 16 32\n", 0, api.ErrSyntax}, {"piece 5 a 0 0 16\t32\n", 0, api.ErrSyntax}, {"piece 5 a 0 0 16 32\r\n", 0, api.ErrSyntax},
		{"piece -5 a 0 0 16 32\n", 0, api.ErrSyntax}, {"piece +5 a 0 0 16 32\n", 0, api.ErrSyntax}, {"piece -0 a 0 0 16 32\n", 0, api.ErrSyntax}, {"piece 05 a 0 0 16 32\n", 0, api.ErrSyntax}, {"piece x a 0 0 16 32\n", 0, api.ErrSyntax}, {"piece 5.0 a 0 0 16 32\n", 0, api.ErrSyntax}, {"piece a 5 0 0 16 32\n", 0, api.ErrSyntax}, {"piece 1000000000 a 0 0 16 32\n", 0, api.ErrSyntax},
		{"piece 5 a -1 0 16 32\n", 0, api.ErrSyntax}, {"piece 5 a 00 0 16 32\n", 0, api.ErrSyntax}, {"piece 5 a -0 0 16 32\n", 0, api.ErrSyntax}, {"piece 5 a x 0 16 32\n", 0, api.ErrSyntax}, {"piece 5 a 1000000000 0 16 32\n", 0, api.ErrSyntax}, {"piece 5 a b 0 0 16 32\n", 0, api.ErrSyntax},
		{"piece 5 a 0 -1 16 32\n", 0, api.ErrSyntax}, {"piece 5 a 0 01 16 32\n", 0, api.ErrSyntax}, {"piece 5 a 0 -0 16 32\n", 0, api.ErrSyntax}, {"piece 5 a 0 x 16 32\n", 0, api.ErrSyntax}, {"piece 5 a 0 1000000000 16 32\n", 0, api.ErrSyntax},
		{"piece 5 a 0 0 x 32\n", 0, api.ErrSyntax}, {"piece 5 a 0 0 16 x\n", 0, api.ErrSyntax}, {"piece 5 a 0 0 -0 32\n", 0, api.ErrSyntax}, {"piece 5 a 0 0 16 -\n", 0, api.ErrSyntax}, {"piece 5 a 0 0 016 32\n", 0, api.ErrSyntax}, {"piece 5 a 0 0 16 +32\n", 0, api.ErrSyntax}, {"piece 5 a 0 0 16 -01\n", 0, api.ErrSyntax}, {"piece 5 a 0 0 1.5 32\n", 0, api.ErrSyntax}, {"piece 5 a 0 0 1000000000 32\n", 0, api.ErrSyntax}, {"piece 5 a 0 0 16 -1000000000\n", 0, api.ErrSyntax}, {"piece 5 a 0 0 16 32 48 x\n", 0, api.ErrSyntax},
		{good + "piece x\n" + good, 1, api.ErrSyntax}, {"piece 999999999 x 9 9 9\n" + good + "x\n", 2, api.ErrSyntax}, {good + good + "x\ny\n", 2, api.ErrSyntax},
		{"piece 100001 a 0 0 16 32\n", 1, api.ErrRange}, {"piece 999999999 x 0 0 16 32\n", 1, api.ErrRange}, {"piece 5 x 0 0 16 32\n", 1, api.ErrUnknown}, {"piece 5 7 0 0 16 32\n", 1, api.ErrUnknown}, {"piece 5 a\t 0 0 16 32\n", 1, api.ErrUnknown}, {"piece 5 \xff 0 0\n", 1, api.ErrUnknown}, {"piece 5 -1 0 0 16 32\n", 1, api.ErrUnknown},
		{"piece 5 a 2 0 16 32\n", 1, api.ErrRange}, {"piece 5 a 0 2 16 32\n", 1, api.ErrRange}, {"piece 5 a 999999999 0 16 32\n", 1, api.ErrRange}, {"piece 5 a 0 999999999 16\n", 1, api.ErrRange},
		{"piece 5 a 0 0\n", 1, api.ErrShape}, {"piece 5 a 0 0 16\n", 1, api.ErrShape}, {"piece 5 a 0 0 16 32 48\n", 1, api.ErrShape}, {"piece 5 a 0 0 1025 32 48\n", 1, api.ErrShape},
		{"piece 5 a 0 0 1025 32\n", 1, api.ErrRange}, {"piece 5 a 0 0 16 -1025\n", 1, api.ErrRange}, {"piece 5 a 0 0 999999999 32\n", 1, api.ErrRange}, {"piece 5 a 0 0 16 -999999999\n", 1, api.ErrRange}, {"piece 5 a 0 0 1024 -1024\n", 0, api.OK}, {"piece 5 a 0 0 16777217 32\n", 1, api.ErrRange},
		{good + good, 2, api.ErrOrder}, {"piece 5 b 0 0 16 32\n" + good, 2, api.ErrOrder}, {"piece 6 a 0 0 16 32\n" + good + "piece 5 x 0 0 16 32\n", 3, api.ErrOrder}, {good + "piece 4 a 0 0 1025 32\n", 2, api.ErrRange}, {"piece 5 x 0 0 16 32\n" + good + good, 3, api.ErrUnknown},
	} {
		l, i, e := surge.Parse(dd(), row.s)
		wantError(t, fmt.Sprintf("Parse of %q", row.s), l, e, row.e)
		want(t, fmt.Sprintf("index of %q", row.s), i, row.i)
	}
	for _, bad := range badDomains() {
		for _, s := range []string{"", "x", strings.Repeat("x", 1000001)} {
			l, i, e := surge.Parse(bad.d, s)
			wantError(t, "Parse", l, e, bad.e)
			want(t, "index", i, 0)
		}
	}
}

func TestParseLong(t *testing.T) {
	l, i, e := surge.Parse(dd(), strings.Repeat("x", 1000000))
	wantError(t, "Parse", l, e, api.ErrSyntax)
	want(t, "index", i, 0)
	l, i, e = surge.Parse(dd(), strings.Repeat("x", 1000001))
	wantError(t, "Parse", l, e, api.ErrLong)
	want(t, "index", i, 0)
	values := strings.Repeat("piece 0 a 0 0 16 32\n", 50000)
	want(t, "bytes", len(values), 1000000)
	l, i, e = surge.Parse(dd(), values)
	wantError(t, "Parse", l, e, api.ErrMany)
	want(t, "index", i, 50000)
	l, i, e = surge.Parse(dd(), values+"\n")
	wantError(t, "Parse", l, e, api.ErrLong)
	want(t, "index", i, 0)
	l, i, e = surge.Parse(dd(), strings.Repeat("piece 0 a 0 0 16 32\n", 4097))
	wantError(t, "Parse", l, e, api.ErrMany)
	want(t, "index", i, 4097)
}

func TestTheMostPiecesComeBack(t *testing.T) {
	d := large()
	most := zeros(d, 4096)
	s, e := surge.Print(d, most)
	want(t, "Print", e, api.OK)
	l, i, e := surge.Parse(d, s)
	want(t, "Parse", []any{l, i, e}, []any{most, 0, api.OK})
}
