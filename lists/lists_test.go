package lists_test

import (
	"fmt"
	"slices"
	"strconv"
	"testing"

	"tideway/lists"
)

func TestTransform(t *testing.T) {
	if got := lists.Transform([]int{3, 1, 2}, strconv.Itoa); !slices.Equal(got, []string{"3", "1", "2"}) {
		t.Errorf("got %v", got)
	}
	if got := lists.Transform(nil, strconv.Itoa); len(got) != 0 {
		t.Errorf("got %v", got)
	}
}

func TestGrouped(t *testing.T) {
	length := func(s string) int { return len(s) }
	l := []string{"ccc", "a", "bbb", "", "b", "aaa"}
	out := lists.Grouped(l, length)
	if got := fmt.Sprintf("%q", out); got != `[["ccc" "bbb" "aaa"] ["a" "b"] [""]]` {
		t.Errorf("got %s", got)
	}
	_ = append(out[1], "x")
	out[0][0] = "x"
	if got := fmt.Sprintf("%q %q", out[2], l); got != `[""] ["ccc" "a" "bbb" "" "b" "aaa"]` {
		t.Errorf("groups share memory: %s", got)
	}
	if got := lists.Grouped(nil, length); len(got) != 0 {
		t.Errorf("got %v", got)
	}
}

func TestDistinct(t *testing.T) {
	for _, row := range []struct{ l, want []string }{
		{nil, nil}, {[]string{"b"}, []string{"b"}}, {[]string{"b", "a", "b", "", "a", "c", ""}, []string{"b", "a", "", "c"}}, {[]string{"a", "a", "a"}, []string{"a"}},
	} {
		before := slices.Clone(row.l)
		out := lists.Distinct(row.l)
		if !slices.Equal(out, row.want) {
			t.Errorf("Distinct of %q: got %q", row.l, out)
		}
		_ = append(out, "x")
		if !slices.Equal(row.l, before) {
			t.Errorf("Distinct changes %q to %q", before, row.l)
		}
	}
}

func TestChosen(t *testing.T) {
	odd := func(x int) bool { return x%2 == 1 }
	for _, row := range []struct{ l, want []int }{
		{nil, nil}, {[]int{2}, nil}, {[]int{3, 2, 1, 1, 4}, []int{3, 1, 1}},
	} {
		before := slices.Clone(row.l)
		out := lists.Chosen(row.l, odd)
		if !slices.Equal(out, row.want) {
			t.Errorf("Chosen of %d: got %d", row.l, out)
		}
		_ = append(out, 9)
		if !slices.Equal(row.l, before) {
			t.Errorf("Chosen changes %d to %d", before, row.l)
		}
	}
}

func TestIndices(t *testing.T) {
	if got := lists.Indices([]int{7, 0, 5}, strconv.Itoa); len(got) != 3 || got["7"] != 0 || got["0"] != 1 || got["5"] != 2 {
		t.Errorf("got %v", got)
	}
	if got := lists.Indices(nil, strconv.Itoa); got == nil || len(got) != 0 {
		t.Errorf("got %v", got)
	}
}
