package surge_test

import (
	"math"
	"math/rand"
	"slices"
	"testing"

	"tideway/api"
	"tideway/surge"
)

// P3.2

func TestField(t *testing.T) {
	l := slices.Concat(whole(dd(), 4, func(int) float32 { return 9 }), whole(dd(), 5, func(n int) float32 { return float32(n) }))
	for _, row := range []struct {
		run    int
		member string
		tick   int
		want   [][]float32
	}{
		{5, "a", 0, [][]float32{{0, 1}, {2, 3}}}, {5, "a", 1, [][]float32{{4, 5}, {6, 7}}}, {5, "b", 0, [][]float32{{8, 9}, {10, 11}}}, {5, "b", 1, [][]float32{{12, 13}, {14, 15}}}, {4, "b", 0, [][]float32{{9, 9}, {9, 9}}},
	} {
		field, e := surge.Field(dd(), l, row.run, row.member, row.tick)
		want(t, "Field", []any{field, e}, []any{row.want, api.OK})
	}
	field, e := surge.Field(dd(), l[10:12], 5, "a", 1)
	want(t, "Field of a run that is not complete", []any{field, e}, []any{[][]float32{{4, 5}, {6, 7}}, api.OK})
	wide := domain(3, 1, 2, "b a")
	field, e = surge.Field(wide, whole(wide, 0, counted), 0, "a", 1)
	want(t, "Field with three rows", []any{field, e}, []any{[][]float32{{9.0 / 16}, {10.0 / 16}, {11.0 / 16}}, api.OK})
	minus := float32(math.Copysign(0, -1))
	field, e = surge.Field(dd(), []surge.Piece{piece(0, "a", 0, 0, minus, 1), piece(0, "a", 0, 1, 2, minus)}, 0, "a", 0)
	want(t, "Field with zeros", []any{field, e}, []any{[][]float32{{0, 1}, {2, 0}}, api.OK})
}

func TestFieldErrors(t *testing.T) {
	all := whole(dd(), 5, counted)
	for _, row := range []struct {
		what   string
		l      []surge.Piece
		run    int
		member string
		tick   int
		e      api.Errno
	}{
		{"a run", nil, -1, "x", 2, api.ErrRange}, {"a run", all, 100001, "a", 0, api.ErrRange}, {"a run", all, math.MinInt, "x", 0, api.ErrRange}, {"a run", all, math.MaxInt, "x", 0, api.ErrRange},
		{"a member", nil, 5, "x", 2, api.ErrUnknown}, {"a member", all, 5, "", 0, api.ErrUnknown}, {"a member", all, 5, "A", -1, api.ErrUnknown}, {"a member", all, 5, "9", 0, api.ErrUnknown},
		{"a tick", nil, 5, "a", -1, api.ErrRange}, {"a tick", all, 5, "b", 2, api.ErrRange}, {"a tick", all, 5, "a", math.MinInt, api.ErrRange}, {"a tick", all, 5, "a", math.MaxInt, api.ErrRange},
		{"no pieces", nil, 5, "a", 0, api.ErrNone}, {"another run", all, 4, "a", 0, api.ErrNone}, {"a run without pieces", all, 100000, "b", 1, api.ErrNone}, {"the first row", without(all, 2), 5, "a", 1, api.ErrNone}, {"the last row", without(all, 3), 5, "a", 1, api.ErrNone}, {"the last row of all", all[:7], 5, "b", 1, api.ErrNone},
		{"both rows", slices.Concat(all[:2], all[4:]), 5, "a", 1, api.ErrNone}, {"a row in another run", slices.Concat(all[:7], whole(dd(), 6, counted)), 5, "b", 1, api.ErrNone},
	} {
		field, e := surge.Field(dd(), row.l, row.run, row.member, row.tick)
		wantError(t, "Field, "+row.what, field, e, row.e)
	}
	for _, bad := range badStores() {
		field, e := surge.Field(bad.d, bad.l, -1, "x", -1)
		wantError(t, "Field", field, e, bad.e)
		field, e = surge.Field(bad.d, bad.l, 5, "a", 0)
		wantError(t, "Field", field, e, bad.e)
	}
}

func TestAt(t *testing.T) {
	example := [][]float32{{1, 2}, {3, 6}}
	for _, row := range []struct {
		field [][]float32
		y, x  int
		want  int
	}{
		{example, 2, 1, 640}, {example, 4, 4, 1536}, // example 1
		{example, 0, 0, 256}, {example, 0, 4, 512}, {example, 4, 0, 768}, {example, 0, 1, 320}, {example, 0, 3, 448}, {example, 1, 0, 384}, {example, 3, 0, 640}, {example, 4, 3, 1344}, {example, 3, 4, 1280}, {example, 3, 3, 1120},
		{[][]float32{{-64}}, 0, 0, -16384}, {[][]float32{{0.0625}}, 0, 0, 16}, {[][]float32{{64, 64}, {64, 64}}, 3, 1, 16384},
		{[][]float32{{0.0625, 0}}, 0, 1, 12}, {[][]float32{{-0.0625, 0}}, 0, 3, -4}, {[][]float32{{0.0625}, {0}}, 1, 0, 12}, {[][]float32{{0, 0}, {0, 0.0625}}, 1, 1, 1}, {[][]float32{{0, 0}, {0, -0.0625}}, 1, 3, -3}, {[][]float32{{0, 0}, {0.0625, 0}}, 3, 1, 9}, {[][]float32{{0, 0.0625}, {0, 0}}, 1, 2, 6},
		{[][]float32{{1, 2, 3}, {4, 5, 6}, {7, 8, 9}}, 5, 6, 1600}, {[][]float32{{1, 2, 3}, {4, 5, 6}, {7, 8, 9}}, 8, 8, 2304}, {[][]float32{{1, 2, 3}, {4, 5, 6}, {7, 8, 9}}, 8, 7, 2240}, {[][]float32{{1, 2, 3}, {4, 5, 6}, {7, 8, 9}}, 7, 8, 2112},
	} {
		value, e := surge.At(row.field, surge.Place{Y: row.y, X: row.x})
		want(t, "At", []any{value, e}, []any{row.want, api.OK})
	}
}

func TestAtEverywhere(t *testing.T) {
	r := rand.New(rand.NewSource(21))
	for rows := range 8 {
		for columns := range 8 {
			field := randomField(r, rows+1, columns+1)
			for y := range 4*rows + 1 {
				for x := range 4*columns + 1 {
					p := surge.Place{Y: y, X: x}
					value, e := surge.At(field, p)
					want(t, "At", []any{value, e}, []any{interpolated(field, p), api.OK})
				}
			}
		}
	}
}

func TestAtErrors(t *testing.T) {
	nan, inf := float32(math.NaN()), float32(math.Inf(-1))
	wide := func(rows, columns int) [][]float32 {
		return randomField(rand.New(rand.NewSource(22)), rows, columns)
	}
	for _, row := range []struct {
		what  string
		field [][]float32
		e     api.Errno
	}{
		{"no rows", nil, api.ErrEmpty}, {"no values", [][]float32{nil}, api.ErrEmpty}, {"no values behind a row", [][]float32{{1, 2}, {}}, api.ErrEmpty}, {"no values anywhere", [][]float32{nil, nil}, api.ErrEmpty},
		{"nine rows", wide(9, 1), api.ErrMany}, {"nine rows without values", make([][]float32, 9), api.ErrMany}, {"nine columns", wide(1, 9), api.ErrMany}, {"nine columns in the second row", [][]float32{{1}, make([]float32, 9)}, api.ErrMany}, {"nine wrong values", [][]float32{{nan, nan, nan, nan, nan, nan, nan, nan, nan}}, api.ErrMany},
		{"fewer values", [][]float32{{1, 2}, {nan}}, api.ErrShape}, {"more values", [][]float32{{1}, {nan, 2}}, api.ErrShape}, {"fewer values than in the first row", [][]float32{{1, 2}, {1, 2}, {1}}, api.ErrShape},
		{"no number", [][]float32{{1, nan}, {}}, api.ErrForm}, {"no finite number", [][]float32{{inf, 65}}, api.ErrForm}, {"the first wrong value", [][]float32{{65, nan}}, api.ErrRange}, {"a value off the grid", [][]float32{{1, 2}, {3, 0.03125}}, api.ErrRange}, {"a value that is too low", [][]float32{{1, -64.0625}, {nan, 1}}, api.ErrRange},
	} {
		for _, p := range []surge.Place{{}, {Y: -1, X: -1}} {
			value, e := surge.At(row.field, p)
			wantError(t, "At, "+row.what, value, e, row.e)
		}
	}
	for _, row := range []struct {
		rows, columns int
		y, x          int
	}{
		{2, 2, -1, 0}, {2, 2, 5, 0}, {2, 2, 0, -1}, {2, 2, 0, 5}, {2, 2, math.MinInt, 0}, {2, 2, math.MaxInt, 0}, {2, 2, 0, math.MinInt}, {2, 2, 0, math.MaxInt}, {1, 1, 0, 1}, {1, 1, 1, 0}, {1, 3, 1, 8}, {1, 3, 0, 9}, {3, 1, 8, 1}, {3, 1, 9, 0}, {8, 8, 29, 28}, {8, 8, 28, 29},
	} {
		value, e := surge.At(wide(row.rows, row.columns), surge.Place{Y: row.y, X: row.x})
		wantError(t, "At", value, e, api.ErrRange)
	}
	value, e := surge.At(wide(8, 8), surge.Place{Y: 28, X: 28})
	want(t, "At in the last corner", []any{value, e}, []any{int(256 * wide(8, 8)[7][7]), api.OK})
}
