package surge_test

import (
	"math"
	"math/big"
	"math/rand"
	"slices"
	"testing"

	"tideway/api"
	"tideway/gauge"
	"tideway/surge"
)

// P3.7, and P2 and P4 of DOC.md. Everything here is drawn from generators with fixed seeds.

const rounds = 200

// delivered merges parts of pieces in their order; a part need not be in the order of pieces.
func delivered(t *testing.T, d surge.Domain, parts [][]surge.Piece) []surge.Piece {
	t.Helper()
	var store []surge.Piece
	for _, part := range parts {
		for _, p := range part {
			next, e := surge.Merge(d, store, []surge.Piece{p})
			want(t, "Merge", []any{e, surge.CheckStore(d, next)}, []any{api.OK, api.OK})
			store = next
		}
	}
	return store
}

func TestAnyOrderGivesTheSameForecast(t *testing.T) {
	r := rand.New(rand.NewSource(31))
	for range 60 {
		d := randomDomain(r)
		all := randomRuns(r, d)
		repeated := slices.Concat(all, some(r, all, 2), some(r, all, 2))
		r.Shuffle(len(repeated), func(i, k int) { repeated[i], repeated[k] = repeated[k], repeated[i] })
		want(t, "the store of shuffled pieces", delivered(t, d, [][]surge.Piece{repeated}), all)
	}
}

func TestStoresAreMergedInAnyOrder(t *testing.T) {
	r := rand.New(rand.NewSource(32))
	merge := func(d surge.Domain, a, b []surge.Piece) []surge.Piece {
		l, e := surge.Merge(d, a, b)
		want(t, "Merge", []any{e, surge.CheckStore(d, l)}, []any{api.OK, api.OK})
		return l
	}
	for range rounds {
		d := randomDomain(r)
		all := randomRuns(r, d)
		a, b, c := some(r, all, 2), some(r, all, 2), some(r, all, 3)
		both := merge(d, a, b)
		want(t, "the other way", merge(d, b, a), both)
		want(t, "three", merge(d, both, c), merge(d, a, merge(d, c, b)))
		want(t, "once more", merge(d, both, b), both)
		want(t, "with itself", merge(d, a, a), a)
		want(t, "with nothing", merge(d, nil, a), a)
		for _, p := range all {
			same := func(x surge.Piece) bool {
				return x.Run == p.Run && x.Member == p.Member && x.Tick == p.Tick && x.Row == p.Row
			}
			want(t, "a piece is there", slices.ContainsFunc(both, same), slices.ContainsFunc(a, same) || slices.ContainsFunc(b, same))
		}
	}
}

func TestACompleteRunStaysSo(t *testing.T) {
	r := rand.New(rand.NewSource(33))
	complete := 0
	for range rounds {
		d := randomDomain(r)
		all := randomRuns(r, d)
		few := some(r, all, 1+r.Intn(20))
		more, _ := surge.Merge(d, few, some(r, all, 2))
		for _, run := range []int{3, 5, 9} {
			before, _, _ := surge.Missing(d, few, run)
			after, slot, _ := surge.Missing(d, more, run)
			want(t, "no more pieces are missing", after <= before, true)
			want(t, "a first missing piece", slot != surge.Slot{}, after > 0)
			place, one := surge.Place{}, transfer(0, 0, 1)
			courses, e := surge.Follow(d, few, run, place, one)
			want(t, "Follow", e == api.OK, before == 0)
			if before == 0 {
				complete++
				again, e := surge.Follow(d, more, run, place, one)
				want(t, "Follow again", []any{again, e}, []any{courses, api.OK})
			}
		}
		last, e := surge.Latest(d, few, 9)
		later, _ := surge.Latest(d, more, 9)
		want(t, "Latest", e != api.OK || later >= last, true)
	}
	if complete < 50 {
		t.Errorf("only %d runs are complete", complete)
	}
}

func TestAMissingPieceIsTheFirstOne(t *testing.T) {
	r := rand.New(rand.NewSource(34))
	for range rounds {
		d := randomDomain(r)
		all := whole(d, 5, counted)
		few := some(r, all, 1+r.Intn(9))
		n, slot, e := surge.Missing(d, few, 5)
		want(t, "Missing", []any{n, e}, []any{len(all) - len(few), api.OK})
		for i, p := range all {
			if i == len(few) || few[i].Tick != p.Tick || few[i].Row != p.Row || few[i].Member != p.Member {
				want(t, "the first one", slot, surge.Slot{Member: p.Member, Tick: p.Tick, Row: p.Row})
				break
			}
		}
	}
}

func TestValuesLieBetweenTheirCorners(t *testing.T) {
	r := rand.New(rand.NewSource(35))
	value := func(field [][]float32, y, x int) int {
		out, e := surge.At(field, surge.Place{Y: y, X: x})
		want(t, "At", e, api.OK)
		return out
	}
	for range 20 {
		rows, columns := 2+r.Intn(7), 2+r.Intn(7)
		field := randomField(r, rows, columns)
		for y := range 4*rows - 7 {
			for x := range 4*columns - 7 {
				row, column := y/4*4, x/4*4
				corners := []int{value(field, row, column), value(field, row, column+4), value(field, row+4, column), value(field, row+4, column+4)}
				at := value(field, y, x)
				want(t, "between the corners", slices.Min(corners) <= at && at <= slices.Max(corners), true)
				left, right := value(field, y, column), value(field, y, column+4)
				want(t, "evenly along a row", 4*(at-left), (x-column)*(right-left))
				upper, lower := value(field, row, x), value(field, row+4, x)
				want(t, "evenly along a column", 4*(at-upper), (y-row)*(lower-upper))
			}
		}
		want(t, "the value of a corner", value(field, 4, 4), int(256*field[1][1]))
	}
}

func TestRaisedNumbers(t *testing.T) {
	r := rand.New(rand.NewSource(36))
	raisedBy := map[bool]int{}
	for range 1000 {
		x, l := randomTransfer(r), randomHeights(r, 1+r.Intn(20), 1000)
		sum := 0
		for _, tap := range x.Taps {
			sum += tap
		}
		by := r.Intn(2000) - 1000
		unit := 1 << uint(x.Shift)
		if by*sum%unit != 0 {
			continue
		}
		raised := slices.Clone(l)
		for i := range raised {
			raised[i] += by
		}
		low, _ := surge.Apply(x, l)
		high, e := surge.Apply(x, raised)
		want(t, "Apply", []any{e, len(high)}, []any{api.OK, len(low)})
		for i := range low {
			want(t, "a raised number", high[i]-low[i], by*sum/unit)
		}
		raisedBy[x.Shift > 0]++
	}
	if raisedBy[true] < 100 || raisedBy[false] < 50 {
		t.Errorf("numbers are raised only %v times", raisedBy)
	}
}

func TestNoNightLiesOutsideItsBounds(t *testing.T) {
	r := rand.New(rand.NewSource(37))
	for range rounds {
		l := randomNights(r, 20)
		bounds, e := surge.Learn(l)
		want(t, "Learn", e, api.OK)
		outside, e := surge.Verify(l, bounds)
		want(t, "Verify", []any{outside, e}, []any{[]int{}, api.OK})
		more := append(slices.Clone(l), randomNights(r, 40)...)
		wider, e := surge.Learn(more)
		want(t, "bounds of more nights", []any{e, wider.Low <= bounds.Low, wider.High >= bounds.High}, []any{api.OK, true, true})
		if bounds.Low < bounds.High {
			for _, narrower := range []api.Interval{{Low: bounds.Low + 1, High: bounds.High}, {Low: bounds.Low, High: bounds.High - 1}} {
				outside, _ := surge.Verify(l, narrower)
				want(t, "some night reaches each bound", len(outside) > 0, true)
			}
		}
	}
}

func TestSharesAndQuantiles(t *testing.T) {
	r := rand.New(rand.NewSource(38))
	for range rounds {
		n := 1 + r.Intn(5)
		l := randomEnsemble(r, n, 10)
		before := big.NewRat(1, 1)
		for limit := -12; limit <= 12; limit++ {
			x, e := surge.Exceed(l, limit, api.Span{From: 0, To: n})
			want(t, "Exceed", []any{e, gauge.CheckRatio(x), rat(x).Cmp(before) <= 0}, []any{api.OK, api.OK, true})
			before = rat(x)
		}
		want(t, "the share above all heights", before.Sign(), 0)
		for num := range 9 {
			for index := range n {
				share := big.NewRat(int64(num), 8)
				height, e := surge.Quantile(l, index, ratio(int(share.Num().Int64()), int(share.Denom().Int64())))
				want(t, "Quantile", e, api.OK)
				above, _ := surge.Exceed(l, height, api.Span{From: index, To: index + 1})
				rest := big.NewRat(int64(8-num), 8)
				want(t, "the share above a quantile is at most the rest", rat(above).Cmp(rest) <= 0, true)
			}
		}
	}
}

func TestAllCoursesLieInTheirEnclosure(t *testing.T) {
	r := rand.New(rand.NewSource(39))
	for range rounds {
		n := 1 + r.Intn(5)
		l := randomEnsemble(r, n, 10)
		low := r.Intn(9) - 8
		bounds := api.Interval{Low: low, High: low + r.Intn(9)}
		enclosure, e := surge.Enclose(l, bounds)
		want(t, "Enclose", []any{len(enclosure), e}, []any{n, api.OK})
		for i, x := range enclosure {
			least, most := math.MaxInt, math.MinInt
			for _, c := range l {
				least, most = min(least, c.Heights[i]+bounds.Low), max(most, c.Heights[i]+bounds.High)
				if bounds.Low <= 0 && bounds.High >= 0 {
					want(t, "a course lies in it", x.Low <= c.Heights[i] && c.Heights[i] <= x.High, true)
				}
			}
			want(t, "its ends are reached", x, api.Interval{Low: least, High: most})
		}
	}
}

func TestAllNightsLieInTheEnclosuresTheyTaught(t *testing.T) {
	r := rand.New(rand.NewSource(40))
	for range rounds {
		l := randomNights(r, 20)
		bounds, _ := surge.Learn(l)
		for _, n := range l {
			enclosure, e := surge.Enclose([]surge.Course{course(1, n.Forecast...)}, bounds)
			want(t, "Enclose", e, api.OK)
			for i, x := range enclosure {
				want(t, "what was observed lies in it", x.Low <= n.Observed[i] && n.Observed[i] <= x.High, true)
			}
		}
	}
}

func TestStoresComeBack(t *testing.T) {
	r := rand.New(rand.NewSource(41))
	for range rounds {
		d := randomDomain(r)
		l := some(r, randomRuns(r, d), 1+r.Intn(4))
		s, e := surge.Print(d, l)
		want(t, "Print", e, api.OK)
		again, i, e := surge.Parse(d, s)
		want(t, "Parse", []any{again, i, e}, []any{l, 0, api.OK})
	}
}

// recordOf returns a record of levels that jump and are stuck now and then.
func recordOf(r *rand.Rand, n int) gauge.Record {
	out := gauge.Record{Name: "hook"}
	for range n {
		out.Levels = append(out.Levels, float32(r.Intn(5)))
	}
	return out
}

func TestForecastsOfCleanedRecordsAndVotes(t *testing.T) {
	r := rand.New(rand.NewSource(42))
	rules := []gauge.Rule{{Kind: "jump", A: 40}, {Kind: "stuck", A: 2}}
	for range 100 {
		d := domain(1, 1+r.Intn(8), 1, "a b")
		gauges := [3]gauge.Record{recordOf(r, d.Columns), recordOf(r, d.Columns), recordOf(r, d.Columns)}
		cleaned, _ := gauge.Clean(gauges[0], rules)
		again, _ := gauge.Clean(cleaned, rules)
		vote, _, _ := gauge.Vote(gauges, 16)
		other, _, _ := gauge.Vote([3]gauge.Record{gauges[2], gauges[0], gauges[1]}, 16)
		store := []surge.Piece{piece(5, "a", 0, 0, cleaned.Levels...), piece(5, "b", 0, 0, vote.Levels...)}
		same, e := surge.Merge(d, store, []surge.Piece{piece(5, "a", 0, 0, again.Levels...), piece(5, "b", 0, 0, other.Levels...)})
		want(t, "Merge", []any{same, e}, []any{store, api.OK})
	}
}
