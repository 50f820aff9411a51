package surge_test

import (
	"math"
	"math/rand"
	"slices"
	"testing"

	"tideway/api"
	"tideway/surge"
)

// P3.3

func transfer(shift, offset int, taps ...int) surge.Transfer {
	return surge.Transfer{Taps: taps, Shift: shift, Offset: offset}
}

// badTransfer is a transfer with its first error.
type badTransfer struct {
	t surge.Transfer
	e api.Errno
}

func badTransfers() []badTransfer {
	out := []badTransfer{
		{transfer(0, 0), api.ErrEmpty}, {transfer(-1, 1025), api.ErrEmpty},
		{transfer(0, 0, make([]int, 9)...), api.ErrMany}, {transfer(9, 0, 65, 65, 65, 65, 65, 65, 65, 65, 65), api.ErrMany},
	}
	for _, n := range []int{math.MinInt, -1025, 1025, math.MaxInt} {
		out = append(out, badTransfer{transfer(0, n, 1), api.ErrRange})
	}
	for _, n := range []int{math.MinInt, -1, 9, math.MaxInt} {
		out = append(out, badTransfer{transfer(n, 0, 1), api.ErrRange})
	}
	for _, n := range []int{math.MinInt, -65, 65, math.MaxInt} {
		out = append(out, badTransfer{transfer(0, 0, n), api.ErrRange}, badTransfer{transfer(0, 0, 1, 2, 3, 4, 5, 6, 7, n), api.ErrRange})
	}
	return out
}

func TestCheckTransfer(t *testing.T) {
	for _, x := range []surge.Transfer{
		transfer(0, 0, 0), transfer(8, 1024, 64), transfer(8, -1024, -64), transfer(1, 3, 64, -64, 64, -64, 64, -64, 64, -64),
	} {
		want(t, "CheckTransfer", surge.CheckTransfer(x), api.OK)
	}
	for _, bad := range badTransfers() {
		want(t, "CheckTransfer", surge.CheckTransfer(bad.t), bad.e)
	}
}

func TestApply(t *testing.T) {
	const most = 1 << 20
	for _, row := range []struct {
		t       surge.Transfer
		l, want []int
	}{
		{transfer(1, 3, 2, 1), []int{4, 5, -7}, []int{9, 10, -2}}, // example 3
		{transfer(1, 3, 2, 1), nil, nil}, {transfer(0, 0, 1), []int{5}, []int{5}}, {transfer(0, -7, 0), []int{5, 6}, []int{-7, -7}},
		{transfer(0, 0, 0, 1), []int{5, 6, 7}, []int{5, 5, 6}}, {transfer(0, 0, 0, 0, 0, 1), []int{5, 6, 7, 8, 9}, []int{5, 5, 5, 5, 6}}, {transfer(0, 0, 1, 10, 0, 0, 0, 0, 0, -1), []int{1, 2}, []int{10, 11}},
		{transfer(1, 0, 1), []int{-3, -2, -1, 0, 1, 2, 3}, []int{-2, -1, -1, 0, 0, 1, 1}}, {transfer(8, 0, 1), []int{-257, -256, -255, -1, 0, 255, 256}, []int{-2, -1, -1, -1, 0, 0, 1}}, {transfer(8, 1024, -1), []int{1, 256, 257}, []int{1023, 1023, 1022}},
		{transfer(0, 1024, 64, 64, 64, 64, 64, 64, 64, 64), []int{most, -most}, []int{512*most + 1024, 384*most + 1024}}, {transfer(0, -1024, -64, -64, -64, -64, -64, -64, -64, -64), []int{most}, []int{-512*most - 1024}},
	} {
		l, e := surge.Apply(row.t, row.l)
		want(t, "Apply", []any{l, e}, []any{row.want, api.OK})
	}
}

func TestApplyByDefinition(t *testing.T) {
	r := rand.New(rand.NewSource(23))
	for range 500 {
		x, l := randomTransfer(r), randomHeights(r, r.Intn(97), 1<<uint(r.Intn(21)))
		out, e := surge.Apply(x, l)
		want(t, "Apply", []any{out, e}, []any{transferred(x, l), api.OK})
	}
}

func TestApplyErrors(t *testing.T) {
	good := transfer(0, 0, 1)
	for _, bad := range badTransfers() {
		for _, l := range [][]int{nil, make([]int, 97), {math.MaxInt}} {
			out, e := surge.Apply(bad.t, l)
			wantError(t, "Apply", out, e, bad.e)
		}
	}
	for _, n := range []int{math.MinInt, -1<<20 - 1, 1<<20 + 1, math.MaxInt} {
		out, e := surge.Apply(good, []int{0, n})
		wantError(t, "Apply", out, e, api.ErrRange)
		out, e = surge.Apply(good, append(make([]int, 96), n))
		wantError(t, "Apply", out, e, api.ErrMany)
	}
	out, e := surge.Apply(good, make([]int, 97))
	wantError(t, "Apply", out, e, api.ErrMany)
	out, e = surge.Apply(good, make([]int, 96))
	want(t, "Apply to the most numbers", []any{out, e}, []any{make([]int, 96), api.OK})
}

func TestFollow(t *testing.T) {
	identity := transfer(0, 0, 1)
	run := []surge.Piece{
		piece(5, "a", 0, 0, 1, 2), piece(5, "a", 0, 1, 3, 6), piece(5, "a", 1, 0, -1, -1), piece(5, "a", 1, 1, -1, -1),
		piece(5, "b", 0, 0, 0, 0), piece(5, "b", 0, 1, 0, -0.0625), piece(5, "b", 1, 0, 0.0625, 0), piece(5, "b", 1, 1, 0, 64),
	}
	l := slices.Concat(whole(dd(), 4, counted), run, whole(dd(), 6, counted)[:7])
	for _, row := range []struct {
		p    surge.Place
		t    surge.Transfer
		want [2][]int
	}{
		{surge.Place{}, identity, [2][]int{{16, -16}, {0, 1}}}, {surge.Place{Y: 4, X: 4}, identity, [2][]int{{96, -16}, {-1, 1024}}}, {surge.Place{Y: 4}, identity, [2][]int{{48, -16}, {0, 0}}}, {surge.Place{X: 4}, identity, [2][]int{{32, -16}, {0, 0}}},
		{surge.Place{Y: 2, X: 1}, identity, [2][]int{{40, -16}, {-1, 128}}}, // 640 of example 1, -2, and 6 + 2 * 1024
		{surge.Place{Y: 1, X: 3}, identity, [2][]int{{42, -16}, {-1, 192}}}, {surge.Place{Y: 3, X: 1}, identity, [2][]int{{50, -16}, {-1, 192}}},
		{surge.Place{Y: 2, X: 1}, transfer(1, 3, 2, 1), [2][]int{{63, 7}, {1, 130}}},
		{surge.Place{Y: 2, X: 1}, transfer(0, 0, 16), [2][]int{{640, -256}, {-16, 2048}}}, // rounded down before the transfer, not behind it
		{surge.Place{}, transfer(8, 0, 1), [2][]int{{0, -1}, {0, 0}}},
	} {
		courses, e := surge.Follow(dd(), l, 5, row.p, row.t)
		want(t, "Follow", []any{courses, e}, []any{[]surge.Course{{Weight: 3, Heights: row.want[0]}, {Weight: 1, Heights: row.want[1]}}, api.OK})
	}
}

func TestFollowByDefinition(t *testing.T) {
	r := rand.New(rand.NewSource(24))
	for range 200 {
		d := randomDomain(r)
		l := randomRuns(r, d)
		run := []int{3, 5, 9}[r.Intn(3)]
		p := surge.Place{Y: r.Intn(4*d.Rows - 3), X: r.Intn(4*d.Columns - 3)}
		x := randomTransfer(r)
		var wanted []surge.Course
		for _, m := range d.Members {
			var levels []int
			for tick := range d.Ticks {
				field, _ := surge.Field(d, l, run, m.Name, tick)
				levels = append(levels, int(math.Floor(float64(interpolated(field, p))/16)))
			}
			wanted = append(wanted, surge.Course{Weight: m.Weight, Heights: transferred(x, levels)})
		}
		courses, e := surge.Follow(d, l, run, p, x)
		want(t, "Follow", []any{courses, e}, []any{wanted, api.OK})
		want(t, "the courses are an ensemble", surge.CheckEnsemble(courses), api.OK)
	}
}

func TestFollowReachesTheGreatestHeights(t *testing.T) {
	d := domain(1, 1, 2, "a")
	eight := transfer(0, 1024, 64, 64, 64, 64, 64, 64, 64, 64)
	courses, e := surge.Follow(d, whole(d, 0, func(int) float32 { return 64 }), 0, surge.Place{}, eight)
	want(t, "Follow", []any{courses, e}, []any{[]surge.Course{{Weight: 1, Heights: []int{525312, 525312}}}, api.OK})
	want(t, "CheckEnsemble", surge.CheckEnsemble(courses), api.OK)
}

func TestFollowErrors(t *testing.T) {
	all := whole(dd(), 5, counted)
	good, bad := transfer(0, 0, 1), transfer(9, 0)
	outside := surge.Place{Y: 5, X: -1}
	for _, row := range []struct {
		what string
		l    []surge.Piece
		run  int
		p    surge.Place
		t    surge.Transfer
		e    api.Errno
	}{
		{"a run", nil, -1, outside, bad, api.ErrRange}, {"a run", all, 100001, surge.Place{}, bad, api.ErrRange}, {"a run", all, math.MinInt, surge.Place{}, bad, api.ErrRange}, {"a run", all, math.MaxInt, surge.Place{}, bad, api.ErrRange},
		{"a place", nil, 5, surge.Place{Y: -1}, bad, api.ErrRange}, {"a place", all, 5, surge.Place{Y: 5}, bad, api.ErrRange}, {"a place", all, 5, surge.Place{X: -1}, bad, api.ErrRange}, {"a place", nil, 5, surge.Place{X: 5}, bad, api.ErrRange}, {"a place", all, 5, surge.Place{Y: math.MaxInt, X: math.MinInt}, good, api.ErrRange},
		{"a transfer", nil, 5, surge.Place{}, bad, api.ErrEmpty}, {"a transfer", all, 5, surge.Place{Y: 4, X: 4}, transfer(9, 0, 1), api.ErrRange}, {"a transfer", nil, 5, surge.Place{}, transfer(0, 0, 65), api.ErrRange},
		{"no pieces", nil, 5, surge.Place{}, good, api.ErrNone}, {"another run", all, 4, surge.Place{}, good, api.ErrNone}, {"a run behind", all, 6, surge.Place{}, good, api.ErrNone}, {"a last piece", slices.Concat(all[:7], whole(dd(), 6, counted)), 5, surge.Place{}, good, api.ErrNone},
	} {
		courses, e := surge.Follow(dd(), row.l, row.run, row.p, row.t)
		wantError(t, "Follow, "+row.what, courses, e, row.e)
	}
	for i := range all {
		courses, e := surge.Follow(dd(), without(all, i), 5, surge.Place{}, good)
		wantError(t, "Follow without a piece", courses, e, api.ErrNone)
	}
	for _, store := range badStores() {
		courses, e := surge.Follow(store.d, store.l, -1, outside, bad)
		wantError(t, "Follow", courses, e, store.e)
	}
	for _, bad := range badTransfers() {
		courses, e := surge.Follow(dd(), nil, 0, surge.Place{}, bad.t)
		wantError(t, "Follow", courses, e, bad.e)
	}
	wide := domain(2, 3, 1, "a")
	courses, e := surge.Follow(wide, whole(wide, 0, counted), 0, surge.Place{Y: 5, X: 4}, good)
	wantError(t, "Follow", courses, e, api.ErrRange)
	courses, e = surge.Follow(wide, whole(wide, 0, counted), 0, surge.Place{Y: 4, X: 8}, good)
	want(t, "Follow in a wide field", []any{courses, e}, []any{[]surge.Course{{Weight: 1, Heights: []int{5}}}, api.OK})
}
