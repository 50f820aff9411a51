package fault_test

import (
	"fmt"
	"math/rand"
	"slices"
	"testing"

	"tideway/api"
	"tideway/fault"
)

// P7.2

func TestCutsAndPaths(t *testing.T) {
	rest := lists(list(0), list(1), list(2), list(3))
	for _, row := range []struct {
		x           fault.Tree
		cuts, paths [][]int
		single      []int
	}{
		{tt(), lists(list(2), list(3), list(0, 1)), lists(list(0, 2, 3), list(1, 2, 3)), list(2, 3)}, // example 2
		{plain(), lists(list(2), list(0, 1)), lists(list(0, 2), list(1, 2)), list(2)},
		{voting(), lists(list(0, 4), list(0, 5), list(0, 1, 2), list(0, 1, 3), list(0, 2, 3)), lists(list(0), list(1, 2, 4, 5), list(1, 3, 4, 5), list(2, 3, 4, 5)), nil},
		{wide(4, or()), rest, lists(list(0, 1, 2, 3)), list(0, 1, 2, 3)}, {wide(4, and()), lists(list(0, 1, 2, 3)), rest, nil}, {wide(1, and()), lists(list(0)), lists(list(0)), list(0)},
		{wide(4, vote(2)), lists(list(0, 1), list(0, 2), list(0, 3), list(1, 2), list(1, 3), list(2, 3)), lists(list(0, 1, 2), list(0, 1, 3), list(0, 2, 3), list(1, 2, 3)), nil},
		// What is no input of the top event is in no set.
		{changed(func(x *fault.Tree) { x.Gates[1] = or(1) }), lists(list(1), list(3)), lists(list(1, 3)), list(1, 3)},
		{changed(func(x *fault.Tree) { x.Gates[1] = and(2) }), lists(list(2)), lists(list(2)), list(2)},
		// Sets with few events come first, whatever their numbers are.
		{fault.Tree{Basics: wide(6, or()).Basics, Gates: []fault.Gate{and(0, 1, 2), and(0, 5), and(1, 4), or(3, 6, 7, 8)}}, lists(list(3), list(0, 5), list(1, 4), list(0, 1, 2)), lists(list(0, 1, 3), list(0, 3, 4), list(1, 3, 5), list(2, 3, 4, 5)), list(3)},
	} {
		cuts, e := fault.Cuts(row.x)
		want(t, "Cuts", []any{cuts, e}, []any{row.cuts, api.OK})
		paths, e := fault.Paths(row.x)
		want(t, "Paths", []any{paths, e}, []any{row.paths, api.OK})
		single, e := fault.Single(row.x)
		want(t, "Single", []any{single, e}, []any{row.single, api.OK})
		want(t, "CheckCuts", fault.CheckCuts(row.x, row.cuts, row.paths), api.OK)
	}
}

// The largest list of sets has fewer than MaxSets of them.
func TestTheMostSets(t *testing.T) {
	x := wide(12, vote(6))
	cuts, e := fault.Cuts(x)
	want(t, "Cuts", []any{len(cuts), cuts[0], cuts[1], cuts[923], e}, []any{924, list(0, 1, 2, 3, 4, 5), list(0, 1, 2, 3, 4, 6), list(6, 7, 8, 9, 10, 11), api.OK})
	paths, e := fault.Paths(x)
	want(t, "Paths", []any{len(paths), paths[0], paths[791], e}, []any{792, list(0, 1, 2, 3, 4, 5, 6), list(5, 6, 7, 8, 9, 10, 11), api.OK})
	want(t, "CheckCuts", fault.CheckCuts(x, cuts, paths), api.OK)
	want(t, "CheckCuts without the last cut", fault.CheckCuts(x, cuts[:923], paths), api.ErrProof)
	want(t, "CheckCuts without the last path", fault.CheckCuts(x, cuts, paths[:791]), api.ErrProof)
}

func TestCheckCuts(t *testing.T) {
	cuts, paths := lists(list(2), list(3), list(0, 1)), lists(list(0, 2, 3), list(1, 2, 3))
	for _, row := range []struct {
		cuts, paths [][]int
		e           api.Errno
	}{
		{cuts, paths, api.OK}, {lists(list(2), list(0, 1)), paths, api.ErrProof}, // example 2
		// The order does not matter, and sets may come twice, or not be minimal.
		{lists(list(0, 1), list(3), list(2)), lists(list(1, 2, 3), list(0, 2, 3)), api.OK}, {slices.Concat(cuts, cuts), slices.Concat(paths, paths), api.OK}, {slices.Concat(lists(list(0, 1, 2, 3), list(0, 2)), cuts), slices.Concat(lists(list(0, 1, 2, 3)), paths), api.OK},
		// Each minimal set has to be there itself.
		{lists(list(2), list(3), list(0, 1, 2)), paths, api.ErrProof}, {lists(list(0, 2), list(3), list(0, 1)), paths, api.ErrProof}, {cuts, lists(list(0, 2, 3), list(0, 1, 2, 3)), api.ErrProof}, {cuts, paths[:1], api.ErrProof}, {cuts, paths[1:], api.ErrProof}, {cuts[1:], paths, api.ErrProof}, {cuts[:2], paths, api.ErrProof},
		{nil, paths, api.ErrProof}, {cuts, nil, api.ErrProof}, {nil, nil, api.ErrProof},
		// Sets that are none prove nothing, whatever the others are.
		{slices.Concat(cuts, lists(list(0))), paths, api.ErrProof}, {slices.Concat(lists(list(1)), cuts), paths, api.ErrProof}, {slices.Concat(cuts, lists(nil)), paths, api.ErrProof}, {cuts, slices.Concat(paths, lists(list(2, 3))), api.ErrProof}, {cuts, slices.Concat(lists(list(0, 1)), paths), api.ErrProof}, {cuts, slices.Concat(paths, lists(nil)), api.ErrProof}, {lists(nil), lists(nil), api.ErrProof}, {paths, cuts, api.ErrProof},
	} {
		want(t, "CheckCuts", []any{row.cuts, row.paths, fault.CheckCuts(tt(), row.cuts, row.paths)}, []any{row.cuts, row.paths, row.e})
	}
	want(t, "CheckCuts of another tree", fault.CheckCuts(plain(), lists(list(2), list(0, 1)), lists(list(0, 2), list(1, 2))), api.OK)
}

// Cuts go before paths, the number of sets before the first wrong one, and all of them before the proof.
func TestErrorsOfCheckCuts(t *testing.T) {
	cuts, paths := lists(list(2), list(3), list(0, 1)), lists(list(0, 2, 3), list(1, 2, 3))
	full := slices.Repeat(cuts, 342)
	want(t, "sets", len(full), 1026)
	for _, bad := range badSets() {
		with := slices.Concat(cuts, lists(bad.l))
		for _, other := range [][][]int{paths, full, lists(list(-1)), lists(list(1, 0)), nil} {
			want(t, "CheckCuts", fault.CheckCuts(tt(), with, other), bad.e)
			want(t, "CheckCuts", fault.CheckCuts(tt(), slices.Concat(with, full[:1020]), other), bad.e)
		}
		for _, other := range [][][]int{cuts, nil, lists(list(0))} {
			want(t, "CheckCuts", fault.CheckCuts(tt(), other, with), bad.e)
		}
		want(t, "CheckCuts", fault.CheckCuts(tt(), slices.Concat(full[:1024], lists(bad.l)), lists(bad.l)), api.ErrMany)
		want(t, "CheckCuts", fault.CheckCuts(tt(), cuts, slices.Concat(lists(bad.l), full)), api.ErrMany)
		for _, second := range badSets() {
			want(t, "CheckCuts", fault.CheckCuts(tt(), lists(bad.l, second.l), lists(second.l)), bad.e)
			want(t, "CheckCuts", fault.CheckCuts(tt(), cuts, lists(bad.l, second.l)), bad.e)
		}
	}
	want(t, "CheckCuts", fault.CheckCuts(tt(), full[:1024], slices.Repeat(paths, 512)), api.OK)
	want(t, "CheckCuts", fault.CheckCuts(tt(), full[:1025], paths), api.ErrMany)
	want(t, "CheckCuts", fault.CheckCuts(tt(), cuts, slices.Repeat(paths, 513)[:1025]), api.ErrMany)
	want(t, "CheckCuts", fault.CheckCuts(tt(), lists(nil), full), api.ErrMany)
}

func TestSetsByDefinition(t *testing.T) {
	r := rand.New(rand.NewSource(202))
	several := 0
	for i := range 2 * rounds {
		x := randomTree(r, 5+i%8)
		cuts, e := fault.Cuts(x)
		want(t, "Cuts", []any{cuts, e}, []any{minimal(x, isCut(x)), api.OK})
		paths, e := fault.Paths(x)
		want(t, "Paths", []any{paths, e}, []any{minimal(x, isPath(x)), api.OK})
		var single []int
		for event := range size(x) {
			if fails(x, list(event)) {
				single = append(single, event)
			}
		}
		got, e := fault.Single(x)
		want(t, "Single", []any{got, e}, []any{single, api.OK})
		wantProofs(t, r, x, cuts, paths)
		if len(cuts) > 1 && len(paths) > 1 {
			several++
		}
	}
	if several < rounds/4 {
		t.Errorf("only %d trees have several sets", several)
	}
}

// wantProofs checks the minimal sets of a tree as a proof, without one of them, and with another set.
func wantProofs(t *testing.T, r *rand.Rand, x fault.Tree, cuts, paths [][]int) {
	t.Helper()
	i, j := r.Intn(len(cuts)), r.Intn(len(paths))
	want(t, "CheckCuts", fault.CheckCuts(x, cuts, paths), api.OK)
	want(t, "CheckCuts without a cut", fault.CheckCuts(x, slices.Delete(slices.Clone(cuts), i, i+1), paths), api.ErrProof)
	want(t, "CheckCuts without a path", fault.CheckCuts(x, cuts, slices.Delete(slices.Clone(paths), j, j+1)), api.ErrProof)
	more := randomSet(r, x)
	for what, row := range map[string]struct {
		is  bool
		got api.Errno
	}{
		"cut":  {fails(x, more), fault.CheckCuts(x, slices.Concat(cuts, lists(more)), paths)},
		"path": {!fails(x, others(x, more)), fault.CheckCuts(x, cuts, slices.Concat(lists(more), paths))},
	} {
		want(t, fmt.Sprint("CheckCuts with another ", what), row.got == api.OK, row.is)
		if !row.is {
			want(t, "error of CheckCuts", row.got, api.ErrProof)
		}
	}
}
