package basin_test

import (
	"math/rand"
	"slices"
	"testing"

	"tideway/api"
	"tideway/basin"
)

// P4.5, and P5 of DOC.md. Everything here is drawn from generators with fixed seeds.

const rounds = 500

func sum(l []int) int {
	out := 0
	for _, n := range l {
		out += n
	}
	return out
}

func TestWaterIsNeitherMadeNorLost(t *testing.T) {
	r := rand.New(rand.NewSource(71))
	moved := 0
	for range rounds {
		b := randomBasin(r, 8)
		v, l := randomVolumes(r, b), randomConditions(r, b, 1+r.Intn(8))
		run, e := basin.Run(b, v, l)
		balance, wrong := basin.Account(b, v, l)
		want(t, "errors", e, wrong)
		if e != api.OK {
			continue
		}
		moved += balance.Sea + balance.Out
		want(t, "the water", sum(run[len(run)-1]), sum(v)+balance.Rivers+balance.Sea-balance.Out)
		for _, volumes := range run {
			want(t, "CheckVolumes", basin.CheckVolumes(b, volumes), api.OK)
		}
	}
	if moved == 0 {
		t.Error("no water moves")
	}
}

// more returns volumes and a condition, each number of which is the same or greater.
func more(r *rand.Rand, v []int, c basin.Condition) ([]int, basin.Condition) {
	v, c.Inflow = slices.Clone(v), slices.Clone(c.Inflow)
	for i := range v {
		v[i] += r.Intn(3) * r.Intn(9)
		c.Inflow[i] += r.Intn(3) * r.Intn(9)
	}
	c.Tide += r.Intn(3) * r.Intn(5)
	return v, c
}

func TestMoreNeverLeavesLess(t *testing.T) {
	r := rand.New(rand.NewSource(72))
	for range 4 * rounds {
		b := randomBasin(r, 8)
		v, c := randomNumbers(r, len(b.Nodes), 300), randomCondition(r, b)
		greater, rise := more(r, v, c)
		less, e := basin.Step(b, v, c)
		behind, wrong := basin.Step(b, greater, rise)
		want(t, "errors", []api.Errno{e, wrong}, []api.Errno{api.OK, api.OK})
		for i := range less {
			if behind[i] < less[i] {
				t.Errorf("%+v: %v and %+v leave %v, %v and %+v leave %v", b, v, c, less, greater, rise, behind)
			}
		}
		before, e := basin.Until(b, v, c, 0, 25)
		sooner, wrong := basin.Until(b, greater, rise, 0, 25)
		if e == api.OK && (wrong != api.OK || sooner > before) {
			t.Errorf("%+v: %v and %+v take %d steps, %v and %+v %d", b, v, c, before, greater, rise, sooner)
		}
	}
}

func TestPermittedRunsLieInTheEnclosures(t *testing.T) {
	r := rand.New(rand.NewSource(73))
	safes := 0
	for range rounds {
		b := randomBasin(r, 8)
		v, l := randomIntervals(r, len(b.Nodes), 200, 50), randomRanges(r, b, 1+r.Intn(6), 20)
		out, e := basin.Enclose(b, v, l)
		safe, wrong := basin.Safe(b, v, l)
		want(t, "errors", []api.Errno{e, wrong}, []api.Errno{api.OK, api.OK})
		if safe {
			safes++
		}
		for range 10 {
			start, conditions := permittedRun(r, v, l)
			for i, c := range conditions {
				is, e := basin.Within(b, l[i], c)
				want(t, "Within", []any{is, e}, []any{true, api.OK})
			}
			run, e := basin.Run(b, start, conditions)
			want(t, "Run", []any{e, lieIn(run, out)}, []any{api.OK, true})
			_, _, e = basin.First(b, start, conditions)
			want(t, "no node of a safe basin is above its limit", safe && e != api.ErrNone, false)
		}
	}
	if safes < 20 {
		t.Errorf("only %d are safe", safes)
	}
}

// permittedRun returns volumes in intervals, and conditions that ranges permit.
func permittedRun(r *rand.Rand, v []api.Interval, l []basin.Range) ([]int, []basin.Condition) {
	var start []int
	for _, x := range v {
		start = append(start, chosen(r, x))
	}
	var conditions []basin.Condition
	for _, x := range l {
		conditions = append(conditions, permitted(r, x))
	}
	return start, conditions
}

// lieIn reports whether volumes lie in their intervals.
func lieIn(run [][]int, out [][]api.Interval) bool {
	in := len(run) == len(out)
	for i, volumes := range run {
		for k, n := range volumes {
			in = in && out[i][k].Low <= n && n <= out[i][k].High
		}
	}
	return in
}

func TestRunsReachTheEndsOfTheEnclosures(t *testing.T) {
	r := rand.New(rand.NewSource(74))
	for range rounds {
		b := randomBasin(r, 8)
		v, l := randomIntervals(r, len(b.Nodes), 200, 50), randomRanges(r, b, 1+r.Intn(6), 20)
		out, _ := basin.Enclose(b, v, l)
		var low, high []int
		for _, x := range v {
			low, high = append(low, x.Low), append(high, x.High)
		}
		for upper, start := range map[bool][]int{false: low, true: high} {
			corner, e := basin.Corner(b, l, upper)
			want(t, "Corner", e, api.OK)
			for i, c := range corner {
				is, _ := basin.Within(b, l[i], c)
				want(t, "a corner is permitted", is, true)
			}
			run, e := basin.Run(b, start, corner)
			var wanted [][]int
			for _, intervals := range out {
				var ends []int
				for _, x := range intervals {
					ends = append(ends, map[bool]int{false: x.Low, true: x.High}[upper])
				}
				wanted = append(wanted, ends)
			}
			want(t, "Run", []any{run, e}, []any{wanted, api.OK})
			_, _, e = basin.First(b, start, corner)
			safe, _ := basin.Safe(b, v, l)
			want(t, "what is not safe is reached", upper && !safe && e != api.OK, false)
		}
	}
}

// wider returns an interval with another one inside.
func wider(r *rand.Rand, x api.Interval, low, high int) api.Interval {
	return interval(max(low, x.Low-r.Intn(9)), min(high, x.High+r.Intn(9)))
}

func TestWiderRangesHaveWiderEnclosures(t *testing.T) {
	r := rand.New(rand.NewSource(75))
	for range rounds {
		b := randomBasin(r, 8)
		v, l := randomIntervals(r, len(b.Nodes), 200, 50), randomRanges(r, b, 1+r.Intn(6), 20)
		wide, ranges := slices.Clone(v), slices.Clone(l)
		for i, x := range v {
			wide[i] = wider(r, x, 0, 100000000)
		}
		for i, x := range l {
			ranges[i] = tides(0, 0, x.Open)
			ranges[i].Tide = wider(r, x.Tide, -1024, 1024)
			for _, inflow := range x.Inflow {
				ranges[i].Inflow = append(ranges[i].Inflow, wider(r, inflow, 0, 100000))
			}
		}
		out, e := basin.Enclose(b, v, l)
		around, wrong := basin.Enclose(b, wide, ranges)
		want(t, "errors", []api.Errno{e, wrong}, []api.Errno{api.OK, api.OK})
		for tick, intervals := range out {
			for i, x := range intervals {
				if y := around[tick][i]; y.Low > x.Low || y.High < x.High {
					t.Errorf("%v does not lie in %v", x, y)
				}
			}
		}
		safe, _ := basin.Safe(b, wide, ranges)
		still, _ := basin.Safe(b, v, l)
		want(t, "what is safe stays so", safe && !still, false)
	}
}

func TestRangesOneAfterTheOther(t *testing.T) {
	r := rand.New(rand.NewSource(76))
	for range rounds {
		b := randomBasin(r, 8)
		v, l := randomIntervals(r, len(b.Nodes), 200, 50), randomRanges(r, b, 2+r.Intn(6), 20)
		out, e := basin.Enclose(b, v, l)
		want(t, "Enclose", e, api.OK)
		k := 1 + r.Intn(len(l)-1)
		first, e := basin.Enclose(b, v, l[:k])
		want(t, "the first ones", []any{first, e}, []any{out[:k], api.OK})
		rest, e := basin.Enclose(b, first[k-1], l[k:])
		want(t, "the rest", []any{rest, e}, []any{out[k:], api.OK})
	}
}

func TestAClosedBarrierLetsNothingThrough(t *testing.T) {
	r := rand.New(rand.NewSource(77))
	open := 0
	for range rounds {
		b := randomBasin(r, 8)
		v, c := randomNumbers(r, len(b.Nodes), 300), randomCondition(r, b)
		c.Open = false
		flows, e := basin.Flows(b, v, c)
		closed, _ := basin.Step(b, v, c)
		dry := b
		dry.Links = nil
		for i, l := range b.Links {
			if l.Kind == "barrier" {
				want(t, "Flows", []any{flows[i], e}, []any{0, api.OK})
				c.Open = true
				through, _ := basin.Flows(b, v, c)
				c.Open = false
				open += max(through[i], -through[i])
			} else {
				dry.Links = append(dry.Links, l)
			}
		}
		without, _ := basin.Step(dry, v, c)
		want(t, "without barriers", without, closed)
	}
	if open == 0 {
		t.Error("no open barrier lets anything through")
	}
}

func TestTheLatestClosingIsSafe(t *testing.T) {
	r := rand.New(rand.NewSource(78))
	found := 0
	for range 2 * rounds {
		b := randomBasin(r, 4)
		v, l := randomIntervals(r, len(b.Nodes), 40, 20), randomRanges(r, b, 1+r.Intn(6), 5)
		k, e := basin.Latest(b, v, l)
		want(t, "the latest one is a number of ranges", 0 <= k && k <= len(l), true)
		for i := k; i <= len(l); i++ {
			safe, wrong := basin.Safe(b, v, closing(l, i))
			want(t, "Safe", []any{safe, wrong}, []any{e == api.OK && i == k, api.OK})
		}
		if e == api.OK {
			found++
		}
	}
	if found < 100 {
		t.Errorf("only %d have a latest closing", found)
	}
}

// closing returns ranges with the barrier open before the step k, and closed from it on.
func closing(l []basin.Range, k int) []basin.Range {
	out := slices.Clone(l)
	for i := range out {
		out[i].Open = i < k
	}
	return out
}

func TestBasinsAreParsedAsTheyWerePrinted(t *testing.T) {
	r := rand.New(rand.NewSource(79))
	for range rounds {
		b := randomBasin(r, 8)
		s, e := basin.Print(b)
		want(t, "Print", e, api.OK)
		again, i, e := basin.Parse(s)
		want(t, "Parse", []any{again, i, e}, []any{b, 0, api.OK})
	}
}

func TestTextsArePrintedAsTheyWereParsed(t *testing.T) {
	r := rand.New(rand.NewSource(80))
	parsed := 0
	for range 20 * rounds {
		text := []byte(bbText)
		text[r.Intn(len(text))] = "0123456789- \nabl"[r.Intn(16)]
		b, i, e := basin.Parse(string(text))
		if e != api.OK {
			continue
		}
		parsed++
		s, e := basin.Print(b)
		want(t, "Print", []any{s, i, e}, []any{string(text), 0, api.OK})
	}
	if parsed < 1000 {
		t.Errorf("only %d texts are parsed", parsed)
	}
}
