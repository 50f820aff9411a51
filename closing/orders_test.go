package closing_test

import (
	"fmt"
	"math"
	"math/rand"
	"slices"
	"testing"

	"tideway/api"
	"tideway/closing"
)

// P8.3

func TestCheckGates(t *testing.T) {
	most := free(8, 10000, -10000)
	for i := range 8 {
		most.Influence[i][(i+1)%8], most.Influence[i][(i+2)%8] = 10000, -10000
	}
	for _, g := range []closing.Gates{weak(), strong(), three(), most, free(1, 0, 10000), free(8, 0, 0)} {
		want(t, "CheckGates", closing.CheckGates(g), api.OK)
	}
	for i, bad := range badGates() {
		want(t, "CheckGates", []any{i, closing.CheckGates(*bad.x)}, []any{i, bad.e})
	}
}

// gateCalls calls all functions with gates, and with the same other arguments.
func gateCalls(g closing.Gates, number int, l []int) map[string][]any {
	out := map[string][]any{}
	force, e := closing.Force(g, number, number)
	out["Force"] = []any{force, e}
	is, e := closing.Permitted(g, number)
	out["Permitted"] = []any{is, e}
	order, e := closing.Order(g)
	out["Order"] = []any{order, e}
	out["CheckOrder"] = []any{0, closing.CheckOrder(g, l)}
	stuck, e := closing.Stuck(g)
	out["Stuck"] = []any{stuck, e}
	out["CheckStuck"] = []any{0, closing.CheckStuck(g, l)}
	return out
}

// The error of the gates goes before those of all other arguments.
func TestBadGatesInAllFunctions(t *testing.T) {
	for _, bad := range badGates() {
		for _, number := range list(-1, 0) {
			results := gateCalls(*bad.x, number, list(-1, -1))
			want(t, "calls", len(results), 6)
			for what, result := range results {
				wantError(t, what, result[0], result[1].(api.Errno), bad.e)
			}
		}
	}
}

func TestForce(t *testing.T) {
	for _, row := range []struct {
		g      closing.Gates
		forces [][]int // of all gates, by sets
	}{
		{weak(), [][]int{{4, 4}, {4, 6}, {3, 4}, {3, 6}}}, // example 4
		{three(), [][]int{{-5, 7, 0}, {-5, 4, 9}, {-4, 7, -10}, {-4, 4, -1}, {-2, 5, 0}, {-2, 2, 9}, {-1, 5, -10}, {-1, 2, -1}}},
		{free(1, 0, 7), [][]int{{7}, {7}}},
	} {
		for set, forces := range row.forces {
			for gate, wanted := range forces {
				force, e := closing.Force(row.g, set, gate)
				want(t, "Force", []any{set, gate, force, e}, []any{set, gate, wanted, api.OK})
			}
		}
	}
	most := free(8, 0, -10000)
	for i := 1; i < 8; i++ {
		most.Influence[0][i] = -10000
	}
	force, e := closing.Force(most, 255, 0)
	want(t, "the greatest force", []any{force, e}, []any{-80000, api.OK})
}

func TestPermitted(t *testing.T) {
	for _, row := range []struct {
		g    closing.Gates
		want []bool // by sets
	}{
		{weak(), []bool{true, true, true, false}}, {strong(), []bool{true, true, true, true}}, // example 4
		{three(), []bool{true, false, false, false, true, true, false, true}}, {detour(), []bool{true, true, true, false, true, false, true, true}},
		// A force is at most the strength in absolute value.
		{free(1, 5, 5), []bool{true, true}}, {free(1, 5, -5), []bool{true, true}}, {free(1, 5, 6), []bool{true, false}}, {free(1, 5, -6), []bool{true, false}}, {free(1, 0, 0), []bool{true, true}}, {free(2, 0, 1), []bool{true, false, false, false}},
		// A gate that is not down bears everything.
		{changedGates(weak, func(g *closing.Gates) { g.Load[0] = 9 }), []bool{true, false, true, false}},
	} {
		for set, wanted := range row.want {
			is, e := closing.Permitted(row.g, set)
			want(t, "Permitted", []any{set, is, e}, []any{set, wanted, api.OK})
		}
	}
}

func TestErrorsOfForceAndPermitted(t *testing.T) {
	for _, set := range append(outside(0, 3), 256, -4, math.MinInt+1) {
		force, e := closing.Force(weak(), set, 0)
		wantError(t, "Force", force, e, api.ErrUnknown)
		is, e := closing.Permitted(weak(), set)
		wantError(t, "Permitted", is, e, api.ErrUnknown)
	}
	for _, gate := range outside(0, 1) {
		force, e := closing.Force(weak(), 3, gate)
		wantError(t, "Force", force, e, api.ErrUnknown)
	}
	for _, set := range list(8, 256, 1<<32) {
		is, e := closing.Permitted(three(), set)
		wantError(t, "Permitted", is, e, api.ErrUnknown)
	}
	is, e := closing.Permitted(free(8, 1, 1), 255)
	want(t, "Permitted", []any{is, e}, []any{true, api.OK})
	is, e = closing.Permitted(free(8, 1, 1), 256)
	wantError(t, "Permitted", is, e, api.ErrUnknown)
}

// detour are gates of which each one can be lowered first; behind the gate 0 none can follow.
func detour() closing.Gates {
	return closing.Gates{Strength: list(4, 9, 5), Load: list(4, 0, 5), Influence: [][]int{{0, 1, -1}, {0, 0, 0}, {1, -1, 0}}}
}

func TestOrderAndStuck(t *testing.T) {
	for _, row := range []struct {
		g            closing.Gates
		order, stuck []int
	}{
		{weak(), nil, list(0, 1, 2)}, {strong(), list(0, 1), nil}, // example 4
		{three(), list(2, 0, 1), nil}, {detour(), list(1, 2, 0), nil},
		{free(1, 5, 5), list(0), nil}, {free(1, 5, 6), nil, list(0)}, {free(8, 5, 5), list(0, 1, 2, 3, 4, 5, 6, 7), nil}, {free(8, 5, -6), nil, list(0)},
		// Gates 1 and 2 can be lowered in any order, gate 0 never.
		{closing.Gates{Strength: list(0, 9, 9), Load: list(1, 0, 0), Influence: [][]int{{0, 0, 0}, {0, 0, 0}, {0, 0, 0}}}, nil, list(0, 2, 4, 6)},
		// The set of all gates is permitted, and is not reached.
		{closing.Gates{Strength: list(1, 1), Load: list(2, 2), Influence: [][]int{{0, -1}, {-1, 0}}}, nil, list(0)},
	} {
		order, e := closing.Order(row.g)
		stuck, none := closing.Stuck(row.g)
		if row.order == nil {
			wantError(t, "Order", order, e, api.ErrInfeasible)
			want(t, "Stuck", []any{stuck, none}, []any{row.stuck, api.OK})
			want(t, "CheckStuck", closing.CheckStuck(row.g, row.stuck), api.OK)
			continue
		}
		want(t, "Order", []any{order, e}, []any{row.order, api.OK})
		want(t, "CheckOrder", closing.CheckOrder(row.g, row.order), api.OK)
		wantError(t, "Stuck", stuck, none, api.ErrNone)
	}
}

func TestCheckOrder(t *testing.T) {
	for _, row := range []struct {
		g closing.Gates
		l []int
		e api.Errno
	}{
		{strong(), list(0, 1), api.OK}, {strong(), list(1, 0), api.OK}, {weak(), list(0, 1), api.ErrForce}, {weak(), list(1, 0), api.ErrForce},
		{three(), list(2, 0, 1), api.OK}, {three(), list(2, 1, 0), api.ErrForce}, {three(), list(0, 2, 1), api.ErrForce}, {three(), list(1, 2, 0), api.ErrForce},
		{three(), nil, api.ErrShape}, {three(), list(2, 0), api.ErrShape}, {three(), list(-1, 9), api.ErrShape}, {three(), list(2, 0, 1, 1), api.ErrShape}, {three(), make([]int, 3000), api.ErrShape},
		{three(), list(0, 0, 9), api.ErrTwice}, {three(), list(0, 9, 0), api.ErrUnknown}, {three(), list(2, 1, 2), api.ErrTwice}, {three(), list(0, 1, 1), api.ErrTwice}, {three(), list(2, 2, 2), api.ErrTwice}, {three(), list(2, 0, 3), api.ErrUnknown}, {three(), list(2, 0, -1), api.ErrUnknown}, {three(), list(3, 3, 3), api.ErrUnknown}, {three(), list(math.MinInt, 0, 1), api.ErrUnknown}, {three(), list(2, 0, math.MaxInt), api.ErrUnknown},
		{detour(), list(2, 1, 0), api.OK}, {detour(), list(0, 1, 2), api.ErrForce}, {free(1, 5, 5), list(0), api.OK}, {free(1, 5, 6), list(0), api.ErrForce}, {free(8, 5, 5), list(7, 0, 6, 1, 5, 2, 4, 3), api.OK},
	} {
		want(t, fmt.Sprint("CheckOrder of ", row.l), closing.CheckOrder(row.g, row.l), row.e)
	}
}

func TestCheckStuck(t *testing.T) {
	// With gate 0 alone down nothing follows; what is not permitted may be in a family, too.
	for _, row := range []struct {
		g closing.Gates
		l []int
		e api.Errno
	}{
		{weak(), list(0, 1, 2), api.OK}, {weak(), list(0, 1), api.ErrProof}, {weak(), list(0, 2), api.ErrProof}, {weak(), list(0), api.ErrProof}, {weak(), list(1, 2), api.ErrProof}, {weak(), nil, api.ErrProof}, {weak(), list(0, 1, 2, 3), api.ErrProof}, {weak(), list(3), api.ErrProof},
		{strong(), list(0, 1, 2), api.ErrProof}, {strong(), list(0, 1, 2, 3), api.ErrProof},
		{free(2, 0, 1), list(0), api.OK}, {free(2, 0, 1), list(0, 1), api.OK}, {free(2, 0, 1), list(0, 2), api.OK}, {free(2, 0, 1), list(0, 1, 2), api.OK}, {free(2, 0, 1), list(1), api.ErrProof}, {free(2, 0, 1), list(0, 3), api.ErrProof},
		{weak(), list(0, 2, 1), api.ErrOrder}, {weak(), list(0, 0), api.ErrOrder}, {weak(), list(1, 1, 9), api.ErrOrder}, {weak(), list(0, 1, 2, 2), api.ErrOrder}, {weak(), list(0, 1, 2, 4), api.ErrUnknown}, {weak(), list(-1, 0, 1), api.ErrUnknown}, {weak(), list(1, 9, 1), api.ErrUnknown}, {weak(), list(9, 9), api.ErrUnknown}, {weak(), list(math.MinInt), api.ErrUnknown}, {weak(), list(0, math.MaxInt), api.ErrUnknown}, {weak(), make([]int, 3000), api.ErrOrder},
		{free(8, 5, -6), members(1<<63 - 1), api.OK}, {free(8, 5, -6), list(0, 254), api.OK}, {free(8, 5, -6), list(0, 255), api.ErrProof}, {free(8, 5, -6), list(0, 256), api.ErrUnknown},
	} {
		want(t, fmt.Sprint("CheckStuck of ", row.l), closing.CheckStuck(row.g, row.l), row.e)
	}
}

// isStuckFamily reports whether ascending sets are a stuck family.
func isStuckFamily(g closing.Gates, l []int) bool {
	all := 1<<len(g.Strength) - 1
	if !slices.Contains(l, 0) || slices.Contains(l, all) {
		return false
	}
	for _, set := range l {
		for more := range all + 1 {
			if more&set == set && len(members(more)) == len(members(set))+1 && isPermitted(g, members(more)) && !slices.Contains(l, more) {
				return false
			}
		}
	}
	return true
}

// canBeLowered reports whether gates can be lowered one after the other.
func canBeLowered(g closing.Gates, l []int) bool {
	for i := range l {
		if !isPermitted(g, l[:i+1]) {
			return false
		}
	}
	return true
}

func TestOrdersByDefinition(t *testing.T) {
	r := rand.New(rand.NewSource(304))
	stuck := 0
	for range rounds {
		g := randomGates(r, 5)
		n := len(g.Strength)
		want(t, "CheckGates", closing.CheckGates(g), api.OK)
		for set := range 1 << n {
			is, e := closing.Permitted(g, set)
			want(t, "Permitted", []any{is, e}, []any{isPermitted(g, members(set)), api.OK})
		}
		var orders [][]int
		reached := list()
		for _, l := range arrangements(n) {
			if canBeLowered(g, l) {
				reached = append(reached, setOf(l))
			}
			if len(l) < n {
				continue
			}
			e := api.ErrForce
			if canBeLowered(g, l) {
				orders, e = append(orders, l), api.OK
			}
			want(t, "CheckOrder", closing.CheckOrder(g, l), e)
		}
		slices.Sort(reached)
		reached = slices.Compact(reached)
		order, e := closing.Order(g)
		family, none := closing.Stuck(g)
		if len(orders) > 0 {
			want(t, "Order", []any{order, e}, []any{orders[0], api.OK})
			wantError(t, "Stuck", family, none, api.ErrNone)
			continue
		}
		stuck++
		wantError(t, "Order", order, e, api.ErrInfeasible)
		want(t, "Stuck", []any{family, none}, []any{reached, api.OK})
	}
	if stuck < rounds/5 || stuck > rounds*4/5 {
		t.Errorf("%d of %d gates have no order", stuck, rounds)
	}
}

// Every list of sets of up to three gates is tried.
func TestStuckFamiliesByDefinition(t *testing.T) {
	r := rand.New(rand.NewSource(305))
	families := 0
	for range rounds {
		g := randomGates(r, 3)
		for number := range 1 << (1 << len(g.Strength)) {
			l := members(number)
			e := api.ErrProof
			if isStuckFamily(g, l) {
				families++
				e = api.OK
			}
			want(t, fmt.Sprint("CheckStuck of ", l), closing.CheckStuck(g, l), e)
		}
	}
	if families < rounds {
		t.Errorf("there are just %d stuck families", families)
	}
}
