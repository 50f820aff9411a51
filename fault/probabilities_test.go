package fault_test

import (
	"math/big"
	"math/rand"
	"testing"

	"tideway/api"
	"tideway/fault"
)

// P7.3

// never and always are the least and the greatest probability.
var (
	never  = ratio(0, 1)
	always = ratio(1, 1)
)

// rare is a tree that fails if all of its 12 events occur.
func rare() fault.Tree {
	return wide(12, and())
}

func TestChance(t *testing.T) {
	two := wide(3, vote(2)) // 3 times 1/16 1/16 15/16, and 1/16 1/16 1/16
	for _, row := range []struct {
		x    fault.Tree
		want api.Ratio
	}{
		{tt(), ratio(151, 256)}, {plain(), ratio(9, 16)}, // examples 3 and 5
		{two, ratio(46, 4096)}, {wide(1, or()), ratio(1, 16)}, {wide(2, or()), ratio(31, 256)}, {rare(), ratio(1, 1<<48)}, {wide(12, or()), ratio(1<<48-129746337890625, 1<<48)},
		{fault.Tree{Basics: []fault.Basic{basic("a", 0)}, Gates: []fault.Gate{or(0)}}, never}, {fault.Tree{Basics: []fault.Basic{basic("a", 16)}, Gates: []fault.Gate{and(0)}}, always},
		{changed(func(x *fault.Tree) { x.Basics[2].Chance = 16 }), always}, {changed(func(x *fault.Tree) { x.Causes[0].Chance = 16 }), always}, {changed(func(x *fault.Tree) { x.Basics[0].Chance, x.Basics[2].Chance, x.Causes[0].Chance = 0, 0, 0 }), never},
		// The cause and the basic events fail the same ones: chances are not added.
		{fault.Tree{Basics: []fault.Basic{basic("a", 8)}, Causes: []fault.Cause{cause("b", 8, 0), cause("c", 8, 0)}, Gates: []fault.Gate{or(0)}}, ratio(7, 8)},
		{fault.Tree{Basics: []fault.Basic{basic("a", 8), basic("b", 8)}, Gates: []fault.Gate{or(0), and(0, 2), or(0, 3)}}, ratio(1, 2)},
	} {
		row.want = exact(rational(row.want)) // in lowest terms
		p, e := fault.Chance(row.x)
		want(t, "Chance", []any{p, e}, []any{row.want, api.OK})
		p, e = fault.Given(row.x, nil, nil)
		want(t, "Given nothing", []any{p, e}, []any{row.want, api.OK})
	}
}

func TestGiven(t *testing.T) {
	sure := changed(func(x *fault.Tree) { x.Basics[0].Chance, x.Basics[1].Chance = 0, 16 })
	for _, row := range []struct {
		x          fault.Tree
		occur, not []int
		want       api.Ratio
	}{
		{tt(), list(2), nil, always}, {tt(), nil, list(2), ratio(23, 128)}, // example 3
		{tt(), list(0), list(2, 3), ratio(1, 4)}, {tt(), list(0, 1), nil, always}, {tt(), nil, list(0, 1, 2, 3), never}, {tt(), nil, list(0, 2, 3), never}, {tt(), list(0), list(1, 2), ratio(1, 16)}, {tt(), list(3), list(0, 1, 2), always}, {tt(), nil, list(3), ratio(9, 16)}, {tt(), list(0), nil, ratio(83, 128)}, {tt(), list(0, 1, 2, 3), nil, always},
		// Also what never occurs may have occurred.
		{sure, list(0), list(2, 3), always}, {sure, list(0), list(1, 2, 3), never}, {sure, nil, list(2, 3), never}, {sure, list(1), list(2, 3), never},
	} {
		p, e := fault.Given(row.x, row.occur, row.not)
		want(t, "Given", []any{row.occur, row.not, p, e}, []any{row.occur, row.not, row.want, api.OK})
	}
}

// What occurs goes before what does not, and both before an event in both.
func TestErrorsOfGiven(t *testing.T) {
	for _, bad := range badSets() {
		for _, not := range lists(nil, list(0, 1, 2, 3), list(1, 0), list(-1)) {
			p, e := fault.Given(tt(), bad.l, not)
			wantError(t, "Given", p, e, bad.e)
		}
		for _, occur := range lists(nil, list(0), list(0, 1, 2, 3)) {
			p, e := fault.Given(tt(), occur, bad.l)
			wantError(t, "Given", p, e, bad.e)
		}
	}
	for _, row := range [][2][]int{{list(0), list(0)}, {list(3), list(3)}, {list(0, 1), list(1, 2)}, {list(0, 1, 2, 3), list(2)}, {list(1), list(0, 1, 2, 3)}} {
		p, e := fault.Given(tt(), row[0], row[1])
		wantError(t, "Given", p, e, api.ErrConflict)
	}
}

func TestImportanceCriticalAndShare(t *testing.T) {
	for _, row := range []struct {
		x                 fault.Tree
		event             int
		importance, share api.Ratio
		critical          int
	}{
		{tt(), 2, ratio(105, 128), ratio(128, 151), 3}, // example 3
		{tt(), 0, ratio(15, 128), ratio(83, 151), 1}, {tt(), 1, ratio(15, 64), ratio(49, 151), 1}, {tt(), 3, ratio(7, 16), ratio(16, 151), 3},
		{plain(), 2, ratio(7, 8), ratio(8, 9), 3}, {plain(), 1, ratio(1, 4), ratio(1, 3), 1},
		{wide(1, or()), 0, always, always, 1}, {rare(), 11, ratio(1, 1<<44), always, 1}, {wide(12, or()), 0, exact(new(big.Rat).SetFrac64(8649755859375, 1<<44)), ratio(1<<44, 1<<48-129746337890625), 1}, {wide(12, vote(6)), 7, api.Ratio{}, api.Ratio{}, 462},
		// An event that changes nothing occurs with its chance.
		{changed(func(x *fault.Tree) { x.Gates[1] = or(2) }), 0, never, ratio(1, 2), 0}, {changed(func(x *fault.Tree) { x.Gates[1] = or(2) }), 3, never, ratio(1, 16), 0},
		{voting(), 3, ratio(3087, 16384), never, 2}, {voting(), 0, api.Ratio{}, always, api.MaxNumber},
	} {
		if row.importance != (api.Ratio{}) {
			p, e := fault.Importance(row.x, row.event)
			want(t, "Importance", []any{row.event, p, e}, []any{row.event, row.importance, api.OK})
		}
		if row.share != (api.Ratio{}) {
			p, e := fault.Share(row.x, row.event)
			want(t, "Share", []any{row.event, p, e}, []any{row.event, exact(rational(row.share)), api.OK})
		}
		if row.critical != api.MaxNumber {
			n, e := fault.Critical(row.x, row.event)
			want(t, "Critical", []any{row.event, n, e}, []any{row.event, row.critical, api.OK})
		}
	}
}

func TestErrorsOfEvents(t *testing.T) {
	none := changed(func(x *fault.Tree) { x.Basics[0].Chance, x.Basics[2].Chance, x.Causes[0].Chance = 0, 0, 0 })
	for _, event := range outside(3) {
		for _, x := range []fault.Tree{tt(), none} {
			p, e := fault.Importance(x, event)
			wantError(t, "Importance", p, e, api.ErrUnknown)
			n, e := fault.Critical(x, event)
			wantError(t, "Critical", n, e, api.ErrUnknown)
			p, e = fault.Share(x, event)
			wantError(t, "Share", p, e, api.ErrUnknown)
		}
	}
	for event := range 4 {
		p, e := fault.Share(none, event)
		wantError(t, "Share", p, e, api.ErrZero)
	}
	p, e := fault.Importance(none, 0)
	want(t, "Importance", []any{p, e}, []any{ratio(1, 4), api.OK})
	n, e := fault.Critical(none, 0)
	want(t, "Critical", []any{n, e}, []any{1, api.OK})
	_, e = fault.Critical(plain(), 3)
	want(t, "Critical", e, api.ErrUnknown)
}

func TestBound(t *testing.T) {
	certain := wide(12, vote(6))
	for i := range certain.Basics {
		certain.Basics[i].Chance = 16
	}
	for _, row := range []struct {
		x    fault.Tree
		want api.Ratio
	}{
		{tt(), ratio(11, 16)}, {plain(), ratio(5, 8)}, // example 3
		{wide(12, or()), ratio(3, 4)}, {wide(12, and()), ratio(1, 1<<48)}, {wide(12, vote(6)), ratio(231, 1<<22)}, {certain, ratio(924, 1)}, {voting(), ratio(159, 256)},
		{changed(func(x *fault.Tree) { x.Basics[2].Chance, x.Causes[0].Chance = 16, 15 }), ratio(33, 16)}, {changed(func(x *fault.Tree) { x.Basics[0].Chance, x.Basics[2].Chance, x.Causes[0].Chance = 0, 0, 0 }), never},
	} {
		p, e := fault.Bound(row.x)
		want(t, "Bound", []any{p, e}, []any{row.want, api.OK})
	}
}

func TestInterval(t *testing.T) {
	for _, row := range []struct {
		x    fault.Tree
		most []int
		want [2]api.Ratio
	}{
		{tt(), list(16, 4, 8, 1), [2]api.Ratio{ratio(151, 256), ratio(83, 128)}}, // example 4
		{tt(), list(8, 4, 8, 1), [2]api.Ratio{ratio(151, 256), ratio(151, 256)}}, {tt(), list(8, 4, 8, 16), [2]api.Ratio{ratio(151, 256), always}}, {tt(), list(16, 16, 16, 16), [2]api.Ratio{ratio(151, 256), always}}, {plain(), list(8, 8, 8), [2]api.Ratio{ratio(9, 16), ratio(5, 8)}},
		{wide(12, and()), list(1, 1, 1, 1, 1, 1, 1, 1, 1, 1, 1, 2), [2]api.Ratio{ratio(1, 1<<48), ratio(1, 1<<47)}},
	} {
		got, e := fault.Interval(row.x, row.most)
		want(t, "Interval", []any{got, e}, []any{row.want, api.OK})
	}
	for _, row := range []struct {
		most []int
		e    api.Errno
	}{
		{nil, api.ErrShape}, {list(16, 16, 16), api.ErrShape}, {list(16, 16, 16, 16, 16), api.ErrShape}, {list(-1), api.ErrShape}, {make([]int, 1000), api.ErrShape},
		{list(16, 16, 17, 16), api.ErrRange}, {list(-1, 16, 16, 16), api.ErrRange}, {list(16, 16, 16, 17), api.ErrRange}, {list(16, 16, 16, -1), api.ErrRange},
		{list(7, 4, 8, 1), api.ErrOrder}, {list(8, 3, 8, 1), api.ErrOrder}, {list(8, 4, 7, 1), api.ErrOrder}, {list(8, 4, 8, 0), api.ErrOrder}, {list(0, 0, 0, 0), api.ErrOrder},
		{list(7, 17, 8, 1), api.ErrOrder}, {list(17, 3, 8, 1), api.ErrRange}, {list(8, 4, 7, 17), api.ErrOrder}, {list(8, 4, 17, 0), api.ErrRange},
	} {
		got, e := fault.Interval(tt(), row.most)
		wantError(t, "Interval", got, e, row.e)
	}
	_, e := fault.Interval(plain(), list(16, 16, 16, 16))
	want(t, "Interval", e, api.ErrShape)
}

func TestNext(t *testing.T) {
	without := changed(func(x *fault.Tree) { x.Basics[2].Chance = 0 })
	for _, row := range []struct {
		x     fault.Tree
		event int
		want  api.Ratio
	}{
		{tt(), 2, ratio(23, 128)}, {plain(), 2, ratio(1, 8)}, // example 4
		{without, 0, ratio(1, 16)}, {changed(func(x *fault.Tree) { x.Basics[2].Chance, x.Causes[0].Chance = 0, 15 }), 3, ratio(1, 8)}, {voting(), 0, never},
		// Of several events the first one counts, also behind one that lowers nothing.
		{wide(5, or()), 0, ratio(14911, 1<<16)}, {rare(), 0, never}, {changed(func(x *fault.Tree) { x.Basics[0].Chance, x.Basics[2].Chance = 0, 1 }), 2, ratio(1, 16)},
	} {
		event, p, e := fault.Next(row.x)
		want(t, "Next", []any{event, p, e}, []any{row.event, row.want, api.OK})
	}
	sure := changed(func(x *fault.Tree) { x.Basics[2].Chance, x.Causes[0].Chance = 16, 16 })
	never := changed(func(x *fault.Tree) { x.Basics[0].Chance, x.Basics[2].Chance, x.Causes[0].Chance = 0, 0, 0 })
	for _, x := range []fault.Tree{sure, never} {
		event, p, e := fault.Next(x)
		wantError(t, "Next", event, e, api.ErrNone)
		wantError(t, "the probability of Next", p, e, api.ErrNone)
	}
}

func TestProbabilitiesByDefinition(t *testing.T) {
	r := rand.New(rand.NewSource(203))
	for range rounds {
		x := randomTree(r, 6)
		c := chancesOf(x)
		top := probability(x, c, nil, 0)
		p, e := fault.Chance(x)
		want(t, "Chance", []any{p, e}, []any{exact(top), api.OK})
		wantGiven(t, r, x, c)
		wantBound(t, x, c)
		for event := range size(x) {
			wantEvent(t, x, c, event, top)
		}
		wantInterval(t, r, x, c, top)
		wantNext(t, x, c, top)
	}
}

func TestProbabilitiesOfManyEvents(t *testing.T) {
	r := rand.New(rand.NewSource(204))
	for range 6 {
		x := randomTree(r, 12)
		p, e := fault.Chance(x)
		want(t, "Chance", []any{p, e}, []any{exact(probability(x, chancesOf(x), nil, 0)), api.OK})
	}
	p, e := fault.Chance(most())
	want(t, "Chance", []any{p, e}, []any{exact(probability(most(), chancesOf(most()), nil, 0)), api.OK})
}

func wantGiven(t *testing.T, r *rand.Rand, x fault.Tree, c []int) {
	t.Helper()
	var occur, not []int
	for event := range c {
		switch r.Intn(4) {
		case 0:
			occur = append(occur, event)
			c = withChance(c, event, 16)
		case 1:
			not = append(not, event)
			c = withChance(c, event, 0)
		}
	}
	p, e := fault.Given(x, occur, not)
	want(t, "Given", []any{p, e}, []any{exact(probability(x, c, nil, 0)), api.OK})
}

func wantBound(t *testing.T, x fault.Tree, c []int) {
	t.Helper()
	sum := new(big.Rat)
	for _, l := range minimal(x, isCut(x)) {
		product := big.NewRat(1, 1)
		for _, event := range l {
			product.Mul(product, share(c[event]))
		}
		sum.Add(sum, product)
	}
	p, e := fault.Bound(x)
	want(t, "Bound", []any{p, e}, []any{exact(sum), api.OK})
}

// wantEvent checks the importance, the share and the sets of an event by the chances c and the probability of the top event.
func wantEvent(t *testing.T, x fault.Tree, c []int, event int, top *big.Rat) {
	t.Helper()
	with, without := probability(x, withChance(c, event, 16), nil, 0), probability(x, withChance(c, event, 0), nil, 0)
	p, e := fault.Importance(x, event)
	want(t, "Importance", []any{p, e}, []any{exact(new(big.Rat).Sub(with, without)), api.OK})
	decides := 0
	for _, l := range allSets(x) {
		if !isIn(list(event), l) && fails(x, append(l, event)) && !fails(x, l) {
			decides++
		}
	}
	n, e := fault.Critical(x, event)
	want(t, "Critical", []any{n, e}, []any{decides, api.OK})
	p, e = fault.Share(x, event)
	if top.Sign() == 0 {
		wantError(t, "Share", p, e, api.ErrZero)
		return
	}
	both := new(big.Rat).Mul(share(c[event]), with)
	want(t, "Share", []any{p, e}, []any{exact(both.Quo(both, top)), api.OK})
}

func wantInterval(t *testing.T, r *rand.Rand, x fault.Tree, c []int, top *big.Rat) {
	t.Helper()
	var most []int
	for _, chance := range c {
		most = append(most, chance+r.Intn(17-chance))
	}
	got, e := fault.Interval(x, most)
	want(t, "Interval", []any{got, e}, []any{[2]api.Ratio{exact(top), exact(probability(x, most, nil, 0))}, api.OK})
}

func wantNext(t *testing.T, x fault.Tree, c []int, top *big.Rat) {
	t.Helper()
	best, least := -1, top
	for event := range c {
		if p := probability(x, withChance(c, event, 0), nil, 0); p.Cmp(least) < 0 {
			best, least = event, p
		}
	}
	event, p, e := fault.Next(x)
	if best < 0 {
		wantError(t, "Next", event, e, api.ErrNone)
		wantError(t, "the probability of Next", p, e, api.ErrNone)
		return
	}
	want(t, "Next", []any{event, p, e}, []any{best, exact(least), api.OK})
}
