package lists_test

import (
	"slices"
	"strconv"
	"testing"

	"tideway/lists"
)

func TestTransform(t *testing.T) {
	if got := lists.Transform([]int{3, 1, 2}, strconv.Itoa); !slices.Equal(got, []string{"3", "1", "2"}) {
		t.Errorf("got %v", got)
	}
	if got := lists.Transform(nil, strconv.Itoa); len(got) != 0 {
		t.Errorf("got %v", got)
	}
}
