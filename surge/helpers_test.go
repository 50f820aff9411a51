package surge_test

import (
	"fmt"
	"math"
	"math/rand"
	"reflect"
	"slices"
	"strings"
	"testing"

	"tideway/api"
	"tideway/surge"
)

// want compares what results print as: so nil and empty lists are equal.
func want(t *testing.T, what string, got, wanted any) {
	t.Helper()
	if g, w := fmt.Sprintf("%+v", got), fmt.Sprintf("%+v", wanted); g != w {
		t.Errorf("%s: got %s, want %s", what, g, w)
	}
}

// wantError reports an error that is not the wanted one, and a result beside an error that is not zero.
func wantError(t *testing.T, what string, got any, e, wanted api.Errno) {
	t.Helper()
	want(t, "error of "+what, e, wanted)
	if e != api.OK {
		want(t, what+" beside an error", got, reflect.Zero(reflect.TypeOf(got)).Interface())
	}
}

// dd is the domain D of the chapter's examples.
func dd() surge.Domain {
	return surge.Domain{Rows: 2, Columns: 2, Ticks: 2, Members: []surge.Member{{Name: "a", Weight: 3}, {Name: "b", Weight: 1}}}
}

// domain returns a domain with members of these names, the weights of which are 1, 2, and so on.
func domain(rows, columns, ticks int, names string) surge.Domain {
	d := surge.Domain{Rows: rows, Columns: columns, Ticks: ticks}
	for i, name := range strings.Fields(names) {
		d.Members = append(d.Members, surge.Member{Name: name, Weight: i + 1})
	}
	return d
}

// large is a domain with more than MaxPieces pieces in a run.
func large() surge.Domain {
	return domain(8, 1, 96, "m0 m1 m2 m3 m4 m5 m6 m7 m8 m9 m10 m11 m12 m13 m14 m15")
}

func piece(run int, member string, tick, row int, values ...float32) surge.Piece {
	return surge.Piece{Run: run, Member: member, Tick: tick, Row: row, Values: values}
}

// whole returns all pieces of a run, in order; their values are chosen by their number.
func whole(d surge.Domain, run int, value func(number int) float32) []surge.Piece {
	var out []surge.Piece
	number := 0
	for _, m := range d.Members {
		for tick := range d.Ticks {
			for row := range d.Rows {
				values := make([]float32, d.Columns)
				for i := range values {
					values[i] = value(number)
					number++
				}
				out = append(out, piece(run, m.Name, tick, row, values...))
			}
		}
	}
	return out
}

// counted gives each value of a run another level.
func counted(number int) float32 {
	return float32(number%1025) / 16
}

// zeros returns n pieces, from the first one of the run 0 on, with the value 0 everywhere.
func zeros(d surge.Domain, n int) []surge.Piece {
	var out []surge.Piece
	for run := 0; len(out) < n; run++ {
		out = append(out, whole(d, run, func(int) float32 { return 0 })...)
	}
	return out[:n]
}

// without returns pieces without that with an index.
func without(l []surge.Piece, index int) []surge.Piece {
	return slices.Concat(l[:index], l[index+1:])
}

// badDomain is a domain with its first error.
type badDomain struct {
	d surge.Domain
	e api.Errno
}

func badDomains() []badDomain {
	change := func(f func(d *surge.Domain)) surge.Domain {
		d := dd()
		f(&d)
		return d
	}
	members := func(l ...surge.Member) surge.Domain {
		return change(func(d *surge.Domain) { d.Members = l })
	}
	out := []badDomain{
		{surge.Domain{}, api.ErrRange},
		{members(), api.ErrEmpty},
		{members(make([]surge.Member, 17)...), api.ErrMany},
		{domain(1, 1, 1, "a b c d e f g h i j k l m n o p q"), api.ErrMany},
		{members(surge.Member{Name: "", Weight: 1}), api.ErrName},
		{members(surge.Member{Name: "9", Weight: 0}), api.ErrName},
		{members(surge.Member{Name: "a b", Weight: 1}), api.ErrName},
		{members(surge.Member{Name: strings.Repeat("a", 25), Weight: 1}), api.ErrName},
		{members(surge.Member{Name: "9", Weight: 1}, surge.Member{Name: "9", Weight: 1}), api.ErrName},
		{members(surge.Member{Name: "a", Weight: 1}, surge.Member{Name: "a", Weight: 1}), api.ErrTwice},
		{members(surge.Member{Name: "a", Weight: 1}, surge.Member{Name: "b", Weight: 1}, surge.Member{Name: "a", Weight: 2}), api.ErrTwice},
		{members(surge.Member{Name: "a", Weight: 1}, surge.Member{Name: "a", Weight: 1001}), api.ErrRange},
		{members(surge.Member{Name: "a", Weight: 1}, surge.Member{Name: "a", Weight: 1}, surge.Member{Name: "9", Weight: 0}), api.ErrTwice},
		{members(surge.Member{Name: "a", Weight: 0}, surge.Member{Name: "9", Weight: 1}), api.ErrRange},
	}
	for _, weight := range []int{math.MinInt, -1, 0, 1001, math.MaxInt} {
		out = append(out, badDomain{members(surge.Member{Name: "a", Weight: weight}), api.ErrRange})
	}
	for _, n := range []int{math.MinInt, -1, 0, 97, math.MaxInt} {
		side := min(n, 9)
		out = append(out,
			badDomain{change(func(d *surge.Domain) { d.Rows, d.Members = side, nil }), api.ErrRange},
			badDomain{change(func(d *surge.Domain) { d.Columns, d.Members = side, nil }), api.ErrRange},
			badDomain{change(func(d *surge.Domain) { d.Ticks, d.Members = n, nil }), api.ErrRange},
		)
	}
	return out
}

// badPiece is a piece of the domain D with its first error.
type badPiece struct {
	p surge.Piece
	e api.Errno
}

func badPieces() []badPiece {
	nan, inf := float32(math.NaN()), float32(math.Inf(1))
	return []badPiece{
		{surge.Piece{}, api.ErrUnknown},
		{piece(-1, "x", 2, 2, nan), api.ErrRange}, {piece(100001, "x", 2, 2, nan), api.ErrRange}, {piece(math.MinInt, "a", 0, 0, 1, 1), api.ErrRange}, {piece(math.MaxInt, "a", 0, 0, 1, 1), api.ErrRange},
		{piece(0, "x", 2, 2, nan), api.ErrUnknown}, {piece(0, "", 0, 0, 1, 1), api.ErrUnknown}, {piece(0, "A", 0, 0, 1, 1), api.ErrUnknown}, {piece(0, "aa", -1, 0, 1, 1), api.ErrUnknown}, {piece(0, "9", 0, 0, 1, 1), api.ErrUnknown},
		{piece(0, "a", -1, 0, nan), api.ErrRange}, {piece(0, "a", 2, 0, nan), api.ErrRange}, {piece(0, "a", math.MinInt, 0, 1, 1), api.ErrRange}, {piece(0, "a", math.MaxInt, 0, 1, 1), api.ErrRange},
		{piece(0, "a", 0, -1, nan), api.ErrRange}, {piece(0, "a", 0, 2, nan), api.ErrRange}, {piece(0, "a", 0, math.MinInt, 1, 1), api.ErrRange}, {piece(0, "a", 0, math.MaxInt, 1, 1), api.ErrRange},
		{piece(0, "a", 0, 0), api.ErrShape}, {piece(0, "a", 0, 0, nan), api.ErrShape}, {piece(0, "a", 0, 0, nan, 1, 1), api.ErrShape},
		{piece(0, "a", 0, 0, nan, 65), api.ErrForm}, {piece(0, "a", 0, 0, 1, inf), api.ErrForm}, {piece(0, "a", 0, 0, -inf, 1), api.ErrForm}, {piece(0, "a", 0, 0, 65, nan), api.ErrRange},
		{piece(0, "a", 0, 0, 1, 64.0625), api.ErrRange}, {piece(0, "a", 0, 0, -64.0625, 1), api.ErrRange}, {piece(0, "a", 0, 0, 1, 1.0/32), api.ErrRange}, {piece(0, "a", 0, 0, 0.1, 1), api.ErrRange},
	}
}

// badStore is a domain and pieces with their first error.
type badStore struct {
	d surge.Domain
	l []surge.Piece
	e api.Errno
}

func badStores() []badStore {
	first := piece(5, "a", 0, 0, 1, 2)
	var out []badStore
	for _, bad := range badDomains() {
		out = append(out, badStore{bad.d, []surge.Piece{{Run: -1}}, bad.e}, badStore{bad.d, make([]surge.Piece, 4097), bad.e})
	}
	for _, bad := range badPieces() {
		out = append(out, badStore{dd(), []surge.Piece{bad.p, {}}, bad.e}, badStore{dd(), []surge.Piece{first, bad.p}, bad.e})
	}
	orders := [][]surge.Piece{
		{first, first},
		{first, piece(5, "a", 0, 0, 3, 4)},
		{first, piece(4, "b", 1, 1, 1, 2)},
		{piece(5, "b", 0, 0, 1, 2), piece(5, "a", 1, 1, 1, 2)},
		{piece(5, "a", 1, 0, 1, 2), piece(5, "a", 0, 1, 1, 2)},
		{piece(5, "a", 1, 1, 1, 2), piece(5, "a", 1, 0, 1, 2)},
		{first, piece(6, "a", 0, 0, 1, 2), first, {}},
		{piece(0, "b", 0, 0, 1, 2), piece(0, "a", 0, 0, 1, 2)},
	}
	for _, l := range orders {
		out = append(out, badStore{dd(), l, api.ErrOrder})
	}
	return append(out,
		badStore{dd(), make([]surge.Piece, 4097), api.ErrMany},
		badStore{large(), zeros(large(), 4097), api.ErrMany},
		badStore{dd(), []surge.Piece{first, first, {Run: -1}}, api.ErrOrder},
		badStore{dd(), []surge.Piece{first, piece(4, "a", 0, 0, 1)}, api.ErrShape},
	)
}

// randomDomain returns a domain whose runs have at most 64 pieces; its members do not stand in the order of their names.
func randomDomain(r *rand.Rand) surge.Domain {
	return domain(1+r.Intn(4), 1+r.Intn(4), 1+r.Intn(4), []string{"b", "d a", "c b a", "b d c a"}[r.Intn(4)])
}

func randomLevel(r *rand.Rand) float32 {
	return float32(r.Intn(2049)-1024) / 16
}

// randomRuns returns the pieces of the runs 3, 5 and 9, in order.
func randomRuns(r *rand.Rand, d surge.Domain) []surge.Piece {
	level := func(int) float32 { return randomLevel(r) }
	return slices.Concat(whole(d, 3, level), whole(d, 5, level), whole(d, 9, level))
}

// some returns pieces of which about one in n is left out, in order.
func some(r *rand.Rand, l []surge.Piece, n int) []surge.Piece {
	var out []surge.Piece
	for _, p := range l {
		if r.Intn(n) > 0 {
			out = append(out, p)
		}
	}
	return out
}

// randomField returns a field of so many rows and columns.
func randomField(r *rand.Rand, rows, columns int) [][]float32 {
	out := make([][]float32, rows)
	for i := range out {
		for range columns {
			out[i] = append(out[i], randomLevel(r))
		}
	}
	return out
}

func randomTransfer(r *rand.Rand) surge.Transfer {
	t := surge.Transfer{Shift: r.Intn(9), Offset: r.Intn(2049) - 1024}
	for range 1 + r.Intn(8) {
		t.Taps = append(t.Taps, r.Intn(129)-64)
	}
	return t
}

// randomHeights returns n heights from -most to most.
func randomHeights(r *rand.Rand, n, most int) []int {
	out := make([]int, n)
	for i := range out {
		out[i] = r.Intn(2*most+1) - most
	}
	return out
}

// randomEnsemble returns courses of n heights from -most to most.
func randomEnsemble(r *rand.Rand, n, most int) []surge.Course {
	var out []surge.Course
	for range 1 + r.Intn(6) {
		out = append(out, surge.Course{Weight: 1 + r.Intn(5), Heights: randomHeights(r, n, most)})
	}
	return out
}

// randomNights returns nights with heights from -most to most.
func randomNights(r *rand.Rand, most int) []surge.Night {
	var out []surge.Night
	for range 1 + r.Intn(6) {
		n := 1 + r.Intn(5)
		out = append(out, surge.Night{Forecast: randomHeights(r, n, most), Observed: randomHeights(r, n, most)})
	}
	return out
}

// The functions below compute by the definitions of the chapter, in other ways than the program.

// interpolated returns the value at a place, in 256ths: first along the columns, then along the rows. All numbers on the way are exact.
func interpolated(field [][]float32, p surge.Place) int {
	along := func(row []float32) float64 {
		left, part := p.X/4, float64(p.X%4)/4
		if part == 0 {
			return float64(row[left])
		}
		return float64(row[left]) + part*(float64(row[left+1])-float64(row[left]))
	}
	upper, part := p.Y/4, float64(p.Y%4)/4
	value := along(field[upper])
	if part > 0 {
		value += part * (along(field[upper+1]) - value)
	}
	return int(256 * value)
}

// transferred returns a transfer, applied to numbers.
func transferred(t surge.Transfer, l []int) []int {
	var out []int
	for i := range l {
		sum := 0
		for k, tap := range t.Taps {
			if i-k < 0 {
				sum += tap * l[0]
			} else {
				sum += tap * l[i-k]
			}
		}
		out = append(out, int(math.Floor(float64(sum)/math.Pow(2, float64(t.Shift))))+t.Offset)
	}
	return out
}
