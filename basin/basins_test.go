package basin_test

import (
	"math/rand"
	"slices"
	"testing"

	"tideway/api"
	"tideway/basin"
)

// P4.1

func TestLimits(t *testing.T) {
	want(t, "limits", []int{basin.MaxNodes, basin.MaxLinks, basin.MaxArea, basin.MaxHeight, basin.MaxDiv, basin.MaxVolume, basin.MaxInflow, basin.MaxTicks}, []int{8, 16, 1000, 1024, 1000, 100000000, 100000, 96})
}

func TestKinds(t *testing.T) {
	wanted := []string{"barrier", "leak", "outfall", "pump", "weir"}
	l := basin.Kinds()
	want(t, "Kinds", l, wanted)
	l[0] = "x"
	want(t, "Kinds again", basin.Kinds(), wanted)
}

func TestCheckBasin(t *testing.T) {
	for _, b := range []basin.Basin{
		bb(), most(), {Nodes: []basin.Node{node("a", 1, 0)}}, {Nodes: []basin.Node{node("a", 1000, 1024)}}, {Nodes: []basin.Node{node("A_9", 1, 0), node("a_9", 1, 0)}}, {Nodes: []basin.Node{node("node", 1, 0), node("sea", 1, 0)}},
		withLinks(), withLinks(slices.Repeat([]basin.Link{link("weir", 0, 1, 0, 1)}, 16)...),
		withLinks(link("barrier", -1, 0, 0, 1), link("barrier", -1, 1, 0, 1000), link("barrier", -1, 1, 0, 1000)),
		withLinks(link("leak", -1, 0, 0, 1), link("leak", -1, 1, 0, 1000)),
		withLinks(link("outfall", 0, -1, 0, 1), link("outfall", 1, -1, 1024, 1000)),
		withLinks(link("pump", 0, 1, 0, 1), link("pump", 1, 0, 1024, 1000)),
		withLinks(link("weir", 0, 1, 0, 1), link("weir", 1, 0, 1024, 1000)),
	} {
		want(t, "CheckBasin", basin.CheckBasin(b), api.OK)
	}
	for i, bad := range badBasins() {
		want(t, "CheckBasin", []any{i, basin.CheckBasin(bad.b)}, []any{i, bad.e})
	}
}

func TestCheckVolumes(t *testing.T) {
	for _, v := range [][]int{{0, 0}, {100, 30}, {100000000, 100000000}} {
		want(t, "CheckVolumes", basin.CheckVolumes(bb(), v), api.OK)
	}
	for _, bad := range badLists(100000000) {
		want(t, "CheckVolumes", basin.CheckVolumes(bb(), bad.l), bad.e)
	}
	for _, bad := range badBasins() {
		want(t, "CheckVolumes", basin.CheckVolumes(bad.b, nil), bad.e)
		want(t, "CheckVolumes", basin.CheckVolumes(bad.b, []int{-1, 0}), bad.e)
	}
}

func TestCheckCondition(t *testing.T) {
	for _, c := range []basin.Condition{condition(16, true, 20, 5), condition(-1024, false, 0, 0), condition(1024, true, 100000, 100000)} {
		want(t, "CheckCondition", basin.CheckCondition(bb(), c), api.OK)
	}
	for _, bad := range badConditions() {
		want(t, "CheckCondition", basin.CheckCondition(bb(), bad.c), bad.e)
	}
	for _, bad := range badBasins() {
		want(t, "CheckCondition", basin.CheckCondition(bad.b, condition(1025, true)), bad.e)
		want(t, "CheckCondition", basin.CheckCondition(bad.b, condition(0, true)), bad.e)
	}
}

func TestCheckRange(t *testing.T) {
	for _, r := range []basin.Range{
		tides(8, 16, true, intervals(0, 50, 0, 0)...), tides(-1024, 1024, false, intervals(0, 100000, 100000, 100000)...), tides(-1024, -1024, true, intervals(0, 0, 0, 1)...), tides(1024, 1024, true, intervals(0, 0, 0, 0)...),
	} {
		want(t, "CheckRange", basin.CheckRange(bb(), r), api.OK)
	}
	for _, bad := range badRanges() {
		want(t, "CheckRange", basin.CheckRange(bb(), bad.r), bad.e)
	}
	for _, bad := range badBasins() {
		want(t, "CheckRange", basin.CheckRange(bad.b, tides(5, 4, true)), bad.e)
		want(t, "CheckRange", basin.CheckRange(bad.b, tides(0, 0, true)), bad.e)
	}
}

func TestVolumesOfNodes(t *testing.T) {
	wide := basin.Basin{Nodes: []basin.Node{node("a", 1000, 1024), node("b", 1, 0)}}
	for _, row := range []struct {
		b                   basin.Basin
		v                   []int
		levels, above, room []int
	}{
		{bb(), []int{100, 30}, []int{10, 6}, nil, []int{109, 14}}, // example 1
		{bb(), []int{0, 0}, []int{0, 0}, nil, []int{209, 44}}, {bb(), []int{209, 44}, []int{20, 8}, nil, []int{0, 0}}, {bb(), []int{208, 43}, []int{20, 8}, nil, []int{1, 1}},
		{bb(), []int{210, 45}, []int{21, 9}, []int{0, 1}, []int{-1, -1}}, {bb(), []int{211, 44}, []int{21, 8}, []int{0}, []int{-1, 0}}, {bb(), []int{209, 46}, []int{20, 9}, []int{1}, []int{0, -1}}, {bb(), []int{9, 4}, []int{0, 0}, nil, []int{200, 40}}, {bb(), []int{10, 5}, []int{1, 1}, nil, []int{199, 39}},
		{bb(), []int{100000000, 100000000}, []int{10000000, 20000000}, []int{0, 1}, []int{-1, -1}},
		{wide, []int{1024999, 0}, []int{1024, 0}, nil, []int{0, 0}}, {wide, []int{1025000, 1}, []int{1025, 1}, []int{0, 1}, []int{-1, -1}}, {wide, []int{0, 0}, []int{0, 0}, nil, []int{1024999, 0}},
	} {
		levels, e := basin.Levels(row.b, row.v)
		want(t, "Levels", []any{levels, e}, []any{row.levels, api.OK})
		above, e := basin.Above(row.b, row.v)
		want(t, "Above", []any{above, e}, []any{row.above, api.OK})
		room, e := basin.Room(row.b, row.v)
		want(t, "Room", []any{room, e}, []any{row.room, api.OK})
	}
}

func TestErrorsOfVolumes(t *testing.T) {
	check := func(b basin.Basin, v []int, wanted api.Errno) {
		t.Helper()
		levels, e := basin.Levels(b, v)
		wantError(t, "Levels", levels, e, wanted)
		above, e := basin.Above(b, v)
		wantError(t, "Above", above, e, wanted)
		room, e := basin.Room(b, v)
		wantError(t, "Room", room, e, wanted)
	}
	for _, bad := range badLists(100000000) {
		check(bb(), bad.l, bad.e)
	}
	for _, bad := range badBasins() {
		check(bad.b, []int{-1}, bad.e)
	}
}

func TestVolumesByDefinition(t *testing.T) {
	r := rand.New(rand.NewSource(61))
	for range 500 {
		b := randomBasin(r, 8)
		v := randomVolumes(r, b)
		var levels, above, room []int
		for i, n := range b.Nodes {
			level := down(v[i], n.Area)
			levels = append(levels, level)
			more := -1
			if level > n.Limit {
				above = append(above, i)
			} else {
				for more = 0; down(v[i]+more+1, n.Area) <= n.Limit; more++ {
				}
			}
			room = append(room, more)
		}
		gotLevels, _ := basin.Levels(b, v)
		gotAbove, _ := basin.Above(b, v)
		gotRoom, _ := basin.Room(b, v)
		want(t, "volumes", []any{gotLevels, gotAbove, gotRoom}, []any{levels, above, room})
	}
}
