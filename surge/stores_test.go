package surge_test

import (
	"math"
	"slices"
	"strings"
	"testing"

	"tideway/api"
	"tideway/surge"
)

// The limits of the chapter, as numbers: the other tests use both.
func TestLimits(t *testing.T) {
	want(t, "limits", []int{surge.MaxSide, surge.MaxTicks, surge.MaxMembers, surge.MaxWeight, surge.MaxPieces, surge.MaxTaps, surge.MaxTap, surge.MaxShift, surge.MaxOffset, surge.MaxHeight, surge.MaxNights}, []int{8, 96, 16, 1000, 4096, 8, 64, 8, 1024, 1048576, 64})
}

// P3.1

func TestCheckDomain(t *testing.T) {
	for _, d := range []surge.Domain{
		dd(), domain(1, 1, 1, "a"), domain(8, 8, 96, "a"), large(), domain(1, 8, 1, "b a A a_9 z"),
		{Rows: 1, Columns: 1, Ticks: 1, Members: []surge.Member{{Name: strings.Repeat("a", 24), Weight: 1000}}},
	} {
		want(t, "CheckDomain", surge.CheckDomain(d), api.OK)
	}
	for _, bad := range badDomains() {
		want(t, "CheckDomain", surge.CheckDomain(bad.d), bad.e)
	}
}

func TestCheckPiece(t *testing.T) {
	for _, p := range []surge.Piece{
		piece(0, "a", 0, 0, 1, 2), piece(100000, "b", 1, 1, -64, 64), piece(7, "b", 0, 1, 0.0625, -0.0625), piece(7, "a", 1, 0, 0, float32(math.Copysign(0, -1))),
	} {
		want(t, "CheckPiece", surge.CheckPiece(dd(), p), api.OK)
	}
	for _, bad := range badPieces() {
		want(t, "CheckPiece", surge.CheckPiece(dd(), bad.p), bad.e)
	}
	for _, bad := range badDomains() {
		want(t, "CheckPiece", surge.CheckPiece(bad.d, piece(-1, "x", -1, -1)), bad.e)
	}
	want(t, "CheckPiece in the greatest domain", surge.CheckPiece(domain(8, 8, 96, "a"), piece(0, "a", 95, 7, make([]float32, 8)...)), api.OK)
	want(t, "CheckPiece behind its ticks", surge.CheckPiece(domain(8, 8, 96, "a"), piece(0, "a", 96, 7, make([]float32, 8)...)), api.ErrRange)
}

func TestCheckStore(t *testing.T) {
	for _, l := range [][]surge.Piece{
		nil, whole(dd(), 5, counted), slices.Concat(whole(dd(), 0, counted), whole(dd(), 100000, counted)),
		{piece(5, "b", 1, 1, 1, 2), piece(6, "a", 0, 0, 1, 2)},
		{piece(5, "a", 1, 1, 1, 2), piece(5, "b", 0, 0, 1, 2)},
		{piece(5, "a", 0, 1, 1, 2), piece(5, "a", 1, 0, 1, 2)},
		{piece(5, "a", 0, 0, 1, 2), piece(5, "a", 0, 1, 1, 2)},
	} {
		want(t, "CheckStore", surge.CheckStore(dd(), l), api.OK)
	}
	want(t, "CheckStore of the most pieces", surge.CheckStore(large(), zeros(large(), 4096)), api.OK)
	for _, bad := range badStores() {
		want(t, "CheckStore", surge.CheckStore(bad.d, bad.l), bad.e)
	}
}

func TestMembersStandInTheOrderOfTheDomain(t *testing.T) {
	d := domain(1, 1, 1, "b a")
	b, a := piece(5, "b", 0, 0, 1), piece(5, "a", 0, 0, 2)
	want(t, "CheckStore", surge.CheckStore(d, []surge.Piece{b, a}), api.OK)
	want(t, "CheckStore", surge.CheckStore(d, []surge.Piece{a, b}), api.ErrOrder)
	l, e := surge.Merge(d, []surge.Piece{a}, []surge.Piece{b})
	want(t, "Merge", []any{l, e}, []any{[]surge.Piece{b, a}, api.OK})
	n, slot, e := surge.Missing(d, []surge.Piece{a}, 5)
	want(t, "Missing", []any{n, slot, e}, []any{1, surge.Slot{Member: "b"}, api.OK})
}

func TestMerge(t *testing.T) {
	all := whole(dd(), 5, counted)
	later := whole(dd(), 6, counted)
	var even, odd []surge.Piece
	for i, p := range all {
		if i%2 == 0 {
			even = append(even, p)
		} else {
			odd = append(odd, p)
		}
	}
	for _, row := range []struct {
		what       string
		a, b, want []surge.Piece
	}{
		{"nothing", nil, nil, nil}, {"one empty store", all, nil, all}, {"the same store", all, all, all},
		{"pieces in turns", even, odd, all}, {"a part", all, odd, all}, {"pieces of which some are repeated", all[:6], all[2:], all},
		{"two runs", all, later, slices.Concat(all, later)}, {"two runs in part", slices.Concat(even, later[:1]), slices.Concat(odd, later[1:]), slices.Concat(all, later)},
	} {
		l, e := surge.Merge(dd(), row.a, row.b)
		want(t, "Merge of "+row.what, []any{l, e}, []any{row.want, api.OK})
		l, e = surge.Merge(dd(), row.b, row.a)
		want(t, "Merge the other way of "+row.what, []any{l, e}, []any{row.want, api.OK})
	}
}

func TestMergeConflicts(t *testing.T) {
	all := whole(dd(), 5, counted)
	for i := range all {
		for column := range 2 {
			other := whole(dd(), 5, counted)
			other[i].Values[column] = 64
			for _, b := range [][]surge.Piece{other, other[i : i+1], other[:i+1], slices.Concat(other[i:], whole(dd(), 6, counted))} {
				l, e := surge.Merge(dd(), all, b)
				wantError(t, "Merge", l, e, api.ErrConflict)
				l, e = surge.Merge(dd(), b, all)
				wantError(t, "Merge", l, e, api.ErrConflict)
			}
			l, e := surge.Merge(dd(), without(all, i), other)
			want(t, "Merge of other pieces", []any{l, e}, []any{other, api.OK})
		}
	}
}

func TestMergeTakesBothZerosAsOne(t *testing.T) {
	minus := float32(math.Copysign(0, -1))
	plain := []surge.Piece{piece(5, "a", 0, 0, 0, 1)}
	for _, pair := range [][2]float32{{0, minus}, {minus, 0}, {minus, minus}} {
		l, e := surge.Merge(dd(), []surge.Piece{piece(5, "a", 0, 0, pair[0], 1)}, []surge.Piece{piece(5, "a", 0, 0, pair[1], 1)})
		want(t, "Merge", []any{l, e}, []any{plain, api.OK})
	}
}

func TestMergeErrors(t *testing.T) {
	for _, bad := range badStores() {
		for _, other := range [][]surge.Piece{nil, {{Run: -1}}, make([]surge.Piece, 4097), bad.l} {
			l, e := surge.Merge(bad.d, bad.l, other)
			wantError(t, "Merge", l, e, bad.e)
		}
		l, e := surge.Merge(bad.d, nil, bad.l)
		wantError(t, "Merge", l, e, bad.e)
	}
	d := large()
	most := zeros(d, 4097)
	for _, row := range []struct {
		a, b []surge.Piece
		n    int
		e    api.Errno
	}{
		{most[:4096], most[:4096], 4096, api.OK}, {most[:2048], most[2048:4096], 4096, api.OK}, {most[:4095], most[10:4096], 4096, api.OK},
		{most[:4096], most[4096:], 0, api.ErrMany}, {most[:4096], most[1:], 0, api.ErrMany}, {most[:2048], most[2048:], 0, api.ErrMany},
	} {
		l, e := surge.Merge(d, row.a, row.b)
		want(t, "Merge of many pieces", []any{len(l), e}, []any{row.n, row.e})
	}
	other := slices.Clone(most[1:])
	other[0].Values = []float32{1}
	l, e := surge.Merge(d, most[:4096], other)
	wantError(t, "Merge", l, e, api.ErrConflict)
	other = slices.Clone(most[4095:])
	other[0].Values = []float32{1}
	l, e = surge.Merge(d, most[:4096], other)
	wantError(t, "Merge", l, e, api.ErrConflict)
}

func TestRuns(t *testing.T) {
	for _, row := range []struct {
		l    []surge.Piece
		want []int
	}{
		{nil, nil}, {whole(dd(), 5, counted), []int{5}}, {[]surge.Piece{piece(0, "b", 1, 1, 1, 2)}, []int{0}},
		{slices.Concat(whole(dd(), 2, counted), whole(dd(), 3, counted)[3:], whole(dd(), 100000, counted)[7:]), []int{2, 3, 100000}},
	} {
		runs, e := surge.Runs(dd(), row.l)
		want(t, "Runs", []any{runs, e}, []any{row.want, api.OK})
	}
	for _, bad := range badStores() {
		runs, e := surge.Runs(bad.d, bad.l)
		wantError(t, "Runs", runs, e, bad.e)
	}
}

func TestMissing(t *testing.T) {
	slot := func(member string, tick, row int) surge.Slot {
		return surge.Slot{Member: member, Tick: tick, Row: row}
	}
	all := whole(dd(), 5, counted)
	for _, row := range []struct {
		what string
		l    []surge.Piece
		run  int
		n    int
		slot surge.Slot
	}{
		{"example 2", all[:2], 5, 6, slot("a", 1, 0)}, {"example 2", all[:2], 6, 8, slot("a", 0, 0)},
		{"nothing", nil, 0, 8, slot("a", 0, 0)}, {"all", all, 5, 0, surge.Slot{}}, {"the run before", all, 4, 8, slot("a", 0, 0)}, {"the run behind", all, 100000, 8, slot("a", 0, 0)},
		{"the last piece", all[7:], 5, 7, slot("a", 0, 0)}, {"a row of a tick", all[1:2], 5, 7, slot("a", 0, 0)}, {"the second member", all[4:], 5, 4, slot("a", 0, 0)}, {"the first member", all[:4], 5, 4, slot("b", 0, 0)},
		{"other runs", slices.Concat(whole(dd(), 4, counted), all[:7], whole(dd(), 6, counted)), 5, 1, slot("b", 1, 1)},
		{"the first and the last one", all[1:7], 5, 2, slot("a", 0, 0)}, {"two in between", slices.Concat(all[:3], all[4:6], all[7:]), 5, 2, slot("a", 1, 1)},
	} {
		n, first, e := surge.Missing(dd(), row.l, row.run)
		want(t, "Missing, "+row.what, []any{n, first, e}, []any{row.n, row.slot, api.OK})
	}
	for i, p := range all {
		n, first, e := surge.Missing(dd(), without(all, i), 5)
		want(t, "Missing without a piece", []any{n, first, e}, []any{1, slot(p.Member, p.Tick, p.Row), api.OK})
	}
	n, first, e := surge.Missing(large(), zeros(large(), 4096), 0)
	want(t, "Missing of a run that is too large", []any{n, first, e}, []any{12288 - 4096, slot("m5", 32, 0), api.OK})
	wide := domain(3, 2, 4, "b a")
	n, first, e = surge.Missing(wide, without(whole(wide, 5, counted), 22), 5)
	want(t, "Missing in a domain of other sizes", []any{n, first, e}, []any{1, slot("a", 3, 1), api.OK})
}

func TestMissingErrors(t *testing.T) {
	for _, bad := range badStores() {
		for _, run := range []int{0, -1} {
			n, slot, e := surge.Missing(bad.d, bad.l, run)
			wantError(t, "Missing", n, e, bad.e)
			wantError(t, "Missing", slot, e, bad.e)
		}
	}
	for _, run := range []int{math.MinInt, -1, 100001, math.MaxInt} {
		n, slot, e := surge.Missing(dd(), nil, run)
		wantError(t, "Missing", n, e, api.ErrRange)
		wantError(t, "Missing", slot, e, api.ErrRange)
	}
}

func TestLatest(t *testing.T) {
	none := whole(dd(), 2, counted)[:7]
	three, five, last := whole(dd(), 3, counted), whole(dd(), 5, counted), whole(dd(), 100000, counted)
	l := slices.Concat(none, three, five, whole(dd(), 8, counted)[1:], last)
	for now, run := range map[int]int{3: 3, 4: 3, 5: 5, 6: 5, 8: 5, 9: 5, 99999: 5, 100000: 100000} {
		got, e := surge.Latest(dd(), l, now)
		want(t, "Latest", []any{got, e}, []any{run, api.OK})
	}
	for _, now := range []int{0, 1, 2} {
		got, e := surge.Latest(dd(), l, now)
		wantError(t, "Latest", got, e, api.ErrNone)
	}
	run, e := surge.Latest(dd(), whole(dd(), 0, counted), 0)
	want(t, "Latest of the run 0", []any{run, e}, []any{0, api.OK})
	for _, few := range [][]surge.Piece{nil, none, five[1:], without(five, 3), slices.Concat(five[:4], last[4:])} {
		run, e := surge.Latest(dd(), few, 100000)
		wantError(t, "Latest", run, e, api.ErrNone)
	}
	for _, now := range []int{math.MinInt, -1, 100001, math.MaxInt} {
		for _, l := range [][]surge.Piece{nil, l} {
			run, e := surge.Latest(dd(), l, now)
			wantError(t, "Latest", run, e, api.ErrRange)
		}
		for _, bad := range badStores() {
			run, e := surge.Latest(bad.d, bad.l, now)
			wantError(t, "Latest", run, e, bad.e)
		}
	}
	for _, bad := range badStores() {
		run, e := surge.Latest(bad.d, bad.l, 0)
		wantError(t, "Latest", run, e, bad.e)
	}
}
