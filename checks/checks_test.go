package checks_test

import (
	"math"
	"testing"

	"tideway/api"
	"tideway/checks"
)

func same(t *testing.T, what string, got, wanted api.Errno) {
	t.Helper()
	if got != wanted {
		t.Errorf("%s: got %d, want %d", what, got, wanted)
	}
}

func TestFirst(t *testing.T) {
	same(t, "none", checks.First(), api.OK)
	same(t, "no error", checks.First(api.OK, api.OK), api.OK)
	same(t, "two errors", checks.First(api.OK, api.ErrMany, api.ErrForm), api.ErrMany)
}

func TestEach(t *testing.T) {
	even := func(x int) api.Errno { return checks.Unless(x%2 == 0, api.Errno(x)) }
	same(t, "none", checks.Each(nil, even), api.OK)
	same(t, "no error", checks.Each([]int{2, 4}, even), api.OK)
	same(t, "two errors", checks.Each([]int{2, 5, 3}, even), api.ErrMany)
}

func TestRangeAndMost(t *testing.T) {
	for x, e := range map[int]api.Errno{-1: api.ErrRange, 0: api.OK, 3: api.OK, 4: api.ErrRange} {
		same(t, "Range", checks.Range(x, 0, 3), e)
	}
	for n, e := range map[int]api.Errno{0: api.OK, 3: api.OK, 4: api.ErrMany} {
		same(t, "Most", checks.Most(n, 3), e)
	}
}

func TestCount(t *testing.T) {
	for n, e := range map[int]api.Errno{0: api.ErrEmpty, 1: api.OK, 3: api.OK, 4: api.ErrMany} {
		same(t, "Count", checks.Count(n, 3), e)
	}
}

func TestIndex(t *testing.T) {
	for number, e := range map[int]api.Errno{math.MinInt: api.ErrUnknown, -1: api.ErrUnknown, 0: api.OK, 2: api.OK, 3: api.ErrUnknown, math.MaxInt: api.ErrUnknown} {
		same(t, "Index", checks.Index(number, 3), e)
	}
	same(t, "Index of nothing", checks.Index(0, 0), api.ErrUnknown)
}

func TestAscending(t *testing.T) {
	ascends, other := checks.Ascending[int](), checks.Ascending[string]()
	for i, number := range []int{math.MinInt, math.MinInt, -1, 0, 0, 5, 4, 5, math.MaxInt} {
		same(t, "Ascending", ascends(number), []api.Errno{api.OK, api.ErrOrder, api.OK, api.OK, api.ErrOrder, api.OK, api.ErrOrder, api.OK, api.OK}[i])
	}
	for i, s := range []string{"", "", "B", "a", "aa", "a", "b"} {
		same(t, "Ascending", other(s), []api.Errno{api.OK, api.ErrOrder, api.OK, api.OK, api.OK, api.ErrOrder, api.OK}[i])
	}
}

func TestKnown(t *testing.T) {
	m := map[string]int{"a": 0, "": 1}
	for key, e := range map[string]api.Errno{"a": api.OK, "": api.OK, "b": api.ErrUnknown} {
		same(t, "Known", checks.Known(m, key), e)
	}
	same(t, "Known of nothing", checks.Known(map[int]bool(nil), 0), api.ErrUnknown)
}

func TestOnce(t *testing.T) {
	once, other := checks.Once[string](), checks.Once[string]()
	for i, key := range []string{"a", "", "b", "a", "", "b", "c", "a"} {
		same(t, key, once(key), []api.Errno{api.OK, api.OK, api.OK, api.ErrTwice, api.ErrTwice, api.ErrTwice, api.OK, api.ErrTwice}[i])
	}
	same(t, "another check", other("a"), api.OK)
}
