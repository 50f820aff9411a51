package closing_test

import (
	"fmt"
	"math/rand"
	"slices"
	"strings"
	"testing"

	"tideway/api"
	"tideway/closing"
)

// P8.1

func TestLimits(t *testing.T) {
	want(t, "limits", list(closing.MaxDuration, closing.MaxPhases, closing.MaxGates, closing.MaxForce, closing.MaxPriority), list(1000, 16, 8, 10000, 1000))
}

func TestCheckPlan(t *testing.T) {
	full := row(16, 0, 1000)
	for i := range full {
		full[i].Name = strings.Repeat(string(rune('a'+i)), 24)
		full[i].Before = members(1<<i - 1)
	}
	for _, l := range [][]closing.Phase{
		nil, pp(), full, row(16, 0, 0), row(16, 1000, 1000), {phase("A_9", 0, 1000)}, {phase("a", 0, 0), phase("A", 0, 0), phase("phase", 3, 3, 0, 1)}, {phase("x", 1, 2), phase("y", 1, 2), phase("z", 1, 2, 1)},
	} {
		want(t, "CheckPlan", closing.CheckPlan(l), api.OK)
	}
	for i, bad := range badPlans() {
		want(t, "CheckPlan", []any{i, closing.CheckPlan(bad.x)}, []any{i, bad.e})
	}
}

// planCalls calls all functions with a plan, and with the same other arguments.
func planCalls(l []closing.Phase, tick int, done []int) map[string][]any {
	out := map[string][]any{}
	keep := func(what string) func([]int, api.Errno) {
		return func(result []int, e api.Errno) { out[what] = []any{result, e} }
	}
	keep("the short Times")(closing.Times(l, false))
	keep("the long Times")(closing.Times(l, true))
	between, e := closing.Duration(l)
	out["Duration"] = []any{between, e}
	keep("Critical")(closing.Critical(l))
	keep("Latest")(closing.Latest(l, tick))
	keep("Slack")(closing.Slack(l, tick))
	keep("Fatal")(closing.Fatal(l, tick))
	verdict, e := closing.Verdict(l, tick, done, tick)
	out["Verdict"] = []any{verdict, e}
	text, e := closing.Print(l)
	out["Print"] = []any{text, e}
	return out
}

// The error of the plan goes before those of all other arguments.
func TestBadPlansInAllFunctions(t *testing.T) {
	for _, bad := range badPlans() {
		for _, tick := range list(-1, 5) {
			results := planCalls(bad.x, tick, list(-2, -2))
			want(t, "calls", len(results), 9)
			for what, result := range results {
				wantError(t, what, result[0], result[1].(api.Errno), bad.e)
			}
		}
	}
}

// timed is a plan with its times, its duration and its critical chain.
type timed struct {
	l           []closing.Phase
	short, long []int
	duration    api.Interval
	critical    []int
}

func timedPlans() []timed {
	between := func(low, high int) api.Interval { return api.Interval{Low: low, High: high} }
	still := []closing.Phase{phase("a", 0, 0), phase("b", 0, 0, 0), phase("c", 2, 5, 1), phase("d", 0, 0, 2)}
	// Four chains from a are the longest ones. The first of them has c, which has no duration.
	several := []closing.Phase{phase("a", 1, 2), phase("b", 1, 4), phase("c", 0, 0, 0), phase("d", 1, 3, 0, 2), phase("e", 0, 1, 1, 3), phase("f", 0, 1, 3)}
	return []timed{
		{pp(), list(0, 0, 2, 5), list(0, 0, 6, 9), between(6, 11), list(1, 2, 3)}, // example 1
		{nil, nil, nil, between(0, 0), nil},
		{[]closing.Phase{phase("a", 0, 0)}, list(0), list(0), between(0, 0), nil},
		{[]closing.Phase{phase("a", 0, 7)}, list(0), list(0), between(0, 7), list(0)},
		{row(16, 1000, 1000), tens(16, 1000), tens(16, 1000), between(16000, 16000), members(1<<16 - 1)},
		{row(3, 0, 4), list(0, 0, 0), list(0, 4, 8), between(0, 12), list(0, 1, 2)},
		// Phases without a duration stand in the chain at its beginning, which comes first, and not at its end.
		{still, list(0, 0, 0, 2), list(0, 0, 0, 5), between(2, 5), list(0, 1, 2)},
		{several, list(0, 0, 1, 1, 2, 2), list(0, 0, 2, 2, 5, 5), between(2, 6), list(0, 2, 3, 4)},
		// Of the first phases the one with more behind it counts, not the longest one.
		{[]closing.Phase{phase("a", 5, 5), phase("b", 1, 3), phase("c", 1, 3, 1), phase("d", 1, 3, 0)}, list(0, 0, 1, 5), list(0, 0, 3, 5), between(6, 8), list(0, 3)},
		{[]closing.Phase{phase("a", 1, 5), phase("b", 1, 3), phase("c", 1, 3, 1), phase("d", 1, 3, 2)}, list(0, 0, 1, 2), list(0, 0, 3, 6), between(3, 9), list(1, 2, 3)},
		// Two chains of one length: the first index decides, not the number of phases.
		{[]closing.Phase{phase("a", 3, 6), phase("b", 1, 3), phase("c", 1, 3, 1)}, list(0, 0, 1), list(0, 0, 3), between(3, 6), list(0)},
		{[]closing.Phase{phase("a", 1, 3), phase("b", 3, 6), phase("c", 1, 3, 0)}, list(0, 0, 1), list(0, 0, 3), between(3, 6), list(0, 2)},
		// The last phase does not end last.
		{[]closing.Phase{phase("a", 9, 9), phase("b", 1, 2)}, list(0, 0), list(0, 0), between(9, 9), list(0)},
	}
}

// tens returns n multiples of a number, from 0 on.
func tens(n, step int) []int {
	var out []int
	for i := range n {
		out = append(out, i*step)
	}
	return out
}

func TestTimesDurationsAndCriticalChains(t *testing.T) {
	for _, row := range timedPlans() {
		short, e := closing.Times(row.l, false)
		want(t, "the short Times", []any{short, e}, []any{row.short, api.OK})
		long, e := closing.Times(row.l, true)
		want(t, "the long Times", []any{long, e}, []any{row.long, api.OK})
		duration, e := closing.Duration(row.l)
		want(t, "Duration", []any{duration, e}, []any{row.duration, api.OK})
		critical, e := closing.Critical(row.l)
		want(t, "Critical", []any{critical, e}, []any{row.critical, api.OK})
	}
}

func TestDeadlines(t *testing.T) {
	for _, row := range []struct {
		l                    []closing.Phase
		deadline             int
		latest, slack, fatal []int
	}{
		{pp(), 12, list(3, 1, 7, 10), list(3, 1, 1, 1), list(8, 8, 11, 12)}, // example 2
		{pp(), 11, list(2, 0, 6, 9), list(2, 0, 0, 0), list(7, 7, 10, 11)},
		{pp(), 100000, list(99991, 99989, 99995, 99998), list(99991, 99989, 99989, 99989), list(99996, 99996, 99999, 100000)},
		{nil, 0, nil, nil, nil}, {nil, 100000, nil, nil, nil},
		{[]closing.Phase{phase("a", 0, 0)}, 0, list(0), list(0), list(0)},
		{row(3, 0, 4), 12, list(0, 4, 8), list(0, 0, 0), list(12, 12, 12)},
		{row(16, 1000, 1000), 16000, tens(16, 1000), make([]int, 16), tens(17, 1000)[1:]},
		// Of the phases behind one the chain with the greatest least durations is the fatal one, not that of the long times.
		{[]closing.Phase{phase("a", 1, 1), phase("b", 0, 9, 0), phase("c", 2, 3, 0), phase("d", 2, 3, 2)}, 20, list(10, 11, 14, 17), list(10, 10, 13, 13), list(16, 20, 18, 20)},
	} {
		latest, e := closing.Latest(row.l, row.deadline)
		want(t, "Latest", []any{latest, e}, []any{row.latest, api.OK})
		slack, e := closing.Slack(row.l, row.deadline)
		want(t, "Slack", []any{slack, e}, []any{row.slack, api.OK})
		fatal, e := closing.Fatal(row.l, row.deadline)
		want(t, "Fatal", []any{fatal, e}, []any{row.fatal, api.OK})
	}
}

// wantDeadline checks the errors of Latest and Slack, and that of Fatal.
func wantDeadline(t *testing.T, l []closing.Phase, deadline int, long, short api.Errno) {
	t.Helper()
	latest, e := closing.Latest(l, deadline)
	wantError(t, fmt.Sprint("Latest by ", deadline), latest, e, long)
	slack, e := closing.Slack(l, deadline)
	wantError(t, fmt.Sprint("Slack by ", deadline), slack, e, long)
	fatal, e := closing.Fatal(l, deadline)
	wantError(t, fmt.Sprint("Fatal by ", deadline), fatal, e, short)
}

func TestErrorsOfDeadlines(t *testing.T) {
	for _, deadline := range outside(0, api.MaxTime) {
		for _, l := range [][]closing.Phase{nil, pp(), row(16, 1000, 1000)} {
			wantDeadline(t, l, deadline, api.ErrRange, api.ErrRange)
		}
	}
	// The greatest durations of P end at 11, the least ones at 6.
	for deadline := range 14 {
		long, short := api.OK, api.OK
		if deadline < 11 {
			long = api.ErrInfeasible
		}
		if deadline < 6 {
			short = api.ErrInfeasible
		}
		wantDeadline(t, pp(), deadline, long, short)
	}
	wantDeadline(t, row(16, 0, 1000), 15999, api.ErrInfeasible, api.OK)
	wantDeadline(t, row(16, 0, 1000), 0, api.ErrInfeasible, api.OK)
	wantDeadline(t, row(16, 1000, 1000), 15999, api.ErrInfeasible, api.ErrInfeasible)
	wantDeadline(t, row(16, 1000, 1000), 16000, api.OK, api.OK)
	fatal, e := closing.Fatal(pp(), 10)
	want(t, "Fatal", []any{fatal, e}, []any{list(6, 6, 9, 10), api.OK}) // example 2
}

func TestTimesByDefinition(t *testing.T) {
	r := rand.New(rand.NewSource(301))
	several := 0
	for range rounds {
		l := randomPlan(r, 10, []int{2, 6, 1000}[r.Intn(3)])
		want(t, "CheckPlan", closing.CheckPlan(l), api.OK)
		nothing := make([]int, len(l))
		shortStarts, shortEnds := simulate(l, leasts(l), nothing)
		longStarts, longEnds := simulate(l, mosts(l), nothing)
		short, e := closing.Times(l, false)
		want(t, "the short Times", []any{short, e}, []any{shortStarts, api.OK})
		long, e := closing.Times(l, true)
		want(t, "the long Times", []any{long, e}, []any{longStarts, api.OK})
		duration, e := closing.Duration(l)
		want(t, "Duration", []any{duration, e}, []any{api.Interval{Low: last(shortEnds), High: last(longEnds)}, api.OK})
		longest := [][]int{}
		for _, chain := range append(chains(l), nil) {
			if sum(mosts(l), chain) == last(longEnds) {
				longest = append(longest, chain)
			}
		}
		first := slices.MinFunc(longest, slices.Compare)
		critical, e := closing.Critical(l)
		want(t, "Critical", []any{critical, e}, []any{first, api.OK})
		if len(longest) > 1 && len(first) > 1 {
			several++
		}
	}
	if several < 30 {
		t.Errorf("just %d plans have several critical chains", several)
	}
}

// latestBy returns the greatest start, or end, of a phase by which all phases can end by a deadline if they take durations: it is tried out.
func latestBy(l []closing.Phase, durations []int, i, deadline int) int {
	for tick := deadline; ; tick-- {
		notBefore := make([]int, len(l))
		notBefore[i] = tick
		if _, ends := simulate(l, durations, notBefore); last(ends) <= deadline {
			return tick
		}
	}
}

func TestDeadlinesByDefinition(t *testing.T) {
	r := rand.New(rand.NewSource(302))
	for range rounds {
		l := randomPlan(r, 8, 6)
		nothing := make([]int, len(l))
		starts, ends := simulate(l, mosts(l), nothing)
		deadline := last(ends) + r.Intn(4)
		var latest, slack, fatal []int
		for i := range l {
			latest = append(latest, latestBy(l, mosts(l), i, deadline))
			slack = append(slack, latest[i]-starts[i])
		}
		got, e := closing.Latest(l, deadline)
		want(t, "Latest", []any{got, e}, []any{latest, api.OK})
		got, e = closing.Slack(l, deadline)
		want(t, "Slack", []any{got, e}, []any{slack, api.OK})
		_, ends = simulate(l, leasts(l), nothing)
		deadline = last(ends) + r.Intn(4)
		for i := range l {
			// A phase ends at its fatal time if it starts then, and takes no time.
			durations := leasts(l)
			durations[i] = 0
			fatal = append(fatal, latestBy(l, durations, i, deadline))
		}
		got, e = closing.Fatal(l, deadline)
		want(t, "Fatal", []any{got, e}, []any{fatal, api.OK})
	}
}
