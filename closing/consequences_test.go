package closing_test

import (
	"fmt"
	"math/rand"
	"slices"
	"testing"

	"tideway/api"
	"tideway/closing"
	"tideway/gate"
)

// P8.5, and P7 and P9 of DOC.md

// randomDurations returns durations of phases between their bounds.
func randomDurations(r *rand.Rand, l []closing.Phase) []int {
	var out []int
	for _, p := range l {
		out = append(out, p.Least+r.Intn(p.Most-p.Least+1))
	}
	return out
}

func TestPhasesEndBetweenShortAndLongTimes(t *testing.T) {
	r := rand.New(rand.NewSource(311))
	between := 0
	for range 3 * rounds {
		l := randomPlan(r, 12, 8)
		short, _ := closing.Times(l, false)
		long, e := closing.Times(l, true)
		want(t, "error of Times", e, api.OK)
		duration, _ := closing.Duration(l)
		_, ends := simulate(l, randomDurations(r, l), make([]int, len(l)))
		for i, p := range l {
			if ends[i] < short[i]+p.Least || ends[i] > long[i]+p.Most {
				t.Errorf("phase %d of %v ends at %d", i, l, ends[i])
			}
		}
		if last(ends) < duration.Low || last(ends) > duration.High {
			t.Errorf("%v ends at %d", l, last(ends))
		}
		if duration.Low < last(ends) && last(ends) < duration.High {
			between++
		}
	}
	if between < rounds {
		t.Errorf("just %d plans end between their bounds", between)
	}
}

// P9 of DOC.md, too.
func TestPhasesThatStartByTheirLatestStartsKeepTheDeadline(t *testing.T) {
	r := rand.New(rand.NewSource(312))
	late := 0
	for range 3 * rounds {
		l := randomPlan(r, 10, 6)
		duration, _ := closing.Duration(l)
		deadline := duration.High + r.Intn(10)
		latest, e := closing.Latest(l, deadline)
		want(t, "error of Latest", e, api.OK)
		notBefore := slices.Clone(latest)
		for i := range notBefore {
			if r.Intn(2) == 0 {
				notBefore[i] = r.Intn(latest[i] + 1)
			}
		}
		starts, ends := simulate(l, randomDurations(r, l), notBefore)
		for i := range l {
			if starts[i] > latest[i] || ends[i] > deadline {
				t.Errorf("phase %d of %v starts at %d and ends at %d by the deadline %d", i, l, starts[i], ends[i], deadline)
			}
		}
		if len(l) == 0 {
			continue
		}
		// One tick later is too late: the greatest durations then end behind the deadline.
		notBefore = make([]int, len(l))
		i := r.Intn(len(l))
		notBefore[i] = latest[i] + 1
		if _, ends = simulate(l, mosts(l), notBefore); last(ends) <= deadline {
			t.Errorf("phase %d of %v can start at %d by the deadline %d", i, l, notBefore[i], deadline)
		}
		late++
	}
	if late < 2*rounds {
		t.Errorf("just %d plans have phases", late)
	}
}

func TestPhasesThatHaveNotEndedByTheirFatalTimesMissTheDeadline(t *testing.T) {
	r := rand.New(rand.NewSource(313))
	missed := 0
	for range 3 * rounds {
		l := randomPlan(r, 8, 6)
		duration, _ := closing.Duration(l)
		deadline := duration.Low + r.Intn(12)
		fatal, e := closing.Fatal(l, deadline)
		want(t, "error of Fatal", e, api.OK)
		notBefore := make([]int, len(l))
		for i := range notBefore {
			notBefore[i] = r.Intn(2) * r.Intn(deadline+3)
		}
		_, ends := simulate(l, randomDurations(r, l), notBefore)
		for i := range l {
			if ends[i] > fatal[i] && last(ends) <= deadline {
				t.Errorf("phase %d of %v ends at %d, and all by %d", i, l, ends[i], deadline)
			}
		}
		// What has ended by a tick is a progress. If a phase has not ended at its fatal time, nor does it now, all is lost.
		_, ends = simulate(l, randomDurations(r, l), make([]int, len(l)))
		for i := range l {
			if now := fatal[i] + 1; ends[i] >= now {
				verdict, e := closing.Verdict(l, deadline, progressAt(ends, now), now)
				want(t, fmt.Sprint("Verdict on ", l, " by ", deadline, " at ", now), []any{verdict, e}, []any{"missed", api.OK})
				missed++
			}
		}
	}
	if missed < rounds {
		t.Errorf("just %d deadlines are missed", missed)
	}
}

// progressAt returns the progress of a course: what ends now has not ended yet.
func progressAt(ends []int, now int) []int {
	done := slices.Clone(ends)
	for i, end := range ends {
		if end >= now {
			done[i] = -1
		}
	}
	return done
}

// What is kept or missed stays so, whatever comes.
func TestVerdictsAreKept(t *testing.T) {
	r := rand.New(rand.NewSource(314))
	given := map[string]int{}
	for range rounds {
		l := randomPlan(r, 8, 6)
		_, ends := simulate(l, randomDurations(r, l), make([]int, len(l)))
		deadline := max(0, last(ends)-2+r.Intn(5))
		before := "open"
		for now := range last(ends) + 2 {
			verdict, e := closing.Verdict(l, deadline, progressAt(ends, now), now)
			want(t, "error of Verdict", e, api.OK)
			given[verdict]++
			if before != "open" {
				want(t, "Verdict", verdict, before)
			}
			before = verdict
		}
		want(t, "the last Verdict", before, map[bool]string{true: "kept", false: "missed"}[last(ends) <= deadline])
	}
	for _, verdict := range []string{"kept", "missed", "open"} {
		if given[verdict] < rounds {
			t.Errorf("the verdict %q is given %d times", verdict, given[verdict])
		}
	}
}

func TestTheSlackAlongTheCriticalChainIsTheLeastOne(t *testing.T) {
	r := rand.New(rand.NewSource(315))
	above := 0
	for range 3 * rounds {
		l := randomPlan(r, 12, 5)
		duration, _ := closing.Duration(l)
		deadline := duration.High + r.Intn(5)
		critical, _ := closing.Critical(l)
		slack, e := closing.Slack(l, deadline)
		want(t, "error of Slack", e, api.OK)
		want(t, "the sum along the critical chain", sum(mosts(l), critical), duration.High)
		for i := range slack {
			if slack[i] < deadline-duration.High {
				t.Errorf("the slack of %d in %v by %d is %d", i, l, deadline, slack[i])
			}
			if slack[i] > deadline-duration.High {
				above++
			}
		}
		for n, i := range critical {
			want(t, "the slack along the critical chain", slack[i], deadline-duration.High)
			if n > 0 {
				want(t, "is before", slices.Contains(l[i].Before, critical[n-1]), true)
			}
		}
	}
	if above < rounds {
		t.Errorf("just %d slacks are above the least one", above)
	}
}

// P9 of DOC.md, too.
func TestGatesHaveAnOrderOrAreStuck(t *testing.T) {
	r := rand.New(rand.NewSource(316))
	ordered, stuck := 0, 0
	for range rounds {
		g := randomGates(r, 8)
		n := len(g.Strength)
		order, e := closing.Order(g)
		family, none := closing.Stuck(g)
		want(t, "exactly one of both", (e == api.OK) != (none == api.OK), true)
		if e == api.OK {
			ordered++
			want(t, "CheckOrder", closing.CheckOrder(g, order), api.OK)
			for i := range order {
				wantForces(t, g, order[:i+1])
			}
			// There is no stuck family: what the order reaches would be in it.
			for range 20 {
				var sets []int
				for set := range 1<<n - 1 {
					if r.Intn(6) > 0 || set == 0 {
						sets = append(sets, set)
					}
				}
				want(t, "CheckStuck", closing.CheckStuck(g, sets), api.ErrProof)
			}
			continue
		}
		stuck++
		want(t, "CheckStuck", closing.CheckStuck(g, family), api.OK)
		for range 20 {
			want(t, "CheckOrder", closing.CheckOrder(g, r.Perm(n)), api.ErrForce)
		}
		// It is the least one: without any one of its sets it is none.
		for i := range family {
			want(t, "CheckStuck with one set less", closing.CheckStuck(g, slices.Delete(slices.Clone(family), i, i+1)), api.ErrProof)
		}
	}
	if ordered < rounds/5 || stuck < rounds/5 {
		t.Errorf("%d gates have an order, %d are stuck", ordered, stuck)
	}
}

// wantForces checks that no force on a gate that is down is above its strength.
func wantForces(t *testing.T, g closing.Gates, down []int) {
	t.Helper()
	for _, i := range down {
		force, e := closing.Force(g, setOf(down), i)
		want(t, "error of Force", e, api.OK)
		if force > g.Strength[i] || force < -g.Strength[i] {
			t.Errorf("with %v down the force on %d is %d", down, i, force)
		}
	}
}

// randomPassages returns passages of some ships one after the other, each one a little later than it could be.
func randomPassages(r *rand.Rand, l []closing.Ship, turn int) []closing.Passage {
	ships := r.Perm(len(l))[:r.Intn(len(l)+1)]
	later := slices.Clone(l)
	for _, s := range ships {
		later[s].Arrival += r.Intn(2) * r.Intn(4)
	}
	return earliest(later, turn, ships)
}

func TestNoPassagesHaveMorePriority(t *testing.T) {
	r := rand.New(rand.NewSource(317))
	valid, as := 0, 0
	for range rounds {
		l := randomShips(r, 8)
		turn, clear := r.Intn(4), r.Intn(30)
		p, _ := closing.Passages(l, turn, clear)
		most, e := closing.CheckPassages(l, turn, clear, p)
		want(t, "error of CheckPassages", e, api.OK)
		late, _ := closing.Late(l, clear)
		uncleared, _ := closing.Uncleared(l, turn, clear)
		want(t, "late ones that are cleared", slices.DeleteFunc(slices.Clone(late), func(i int) bool { return slices.Contains(uncleared, i) }), list())
		for range 100 {
			other := randomPassages(r, l, turn)
			n, e := closing.CheckPassages(l, turn, clear, other)
			if e != api.OK {
				continue
			}
			valid++
			if n > most {
				t.Errorf("%v of %v by %d have more priority than %v", other, l, clear, p)
			}
			if n == most && len(p) > 0 {
				as++
			}
			for _, x := range other {
				want(t, "a late ship is cleared", slices.Contains(late, x.Ship), false)
			}
		}
	}
	if valid < 10*rounds || as < rounds {
		t.Errorf("%d passages are valid, %d have as much priority as the best ones", valid, as)
	}
}

// No passage of the best ones can be earlier if those before it stay.
func TestStartsAreAsEarlyAsTheyCanBe(t *testing.T) {
	r := rand.New(rand.NewSource(318))
	for range rounds {
		l := randomShips(r, 6)
		turn, clear := r.Intn(4), r.Intn(30)
		p, _ := closing.Passages(l, turn, clear)
		for i := range p {
			sooner := slices.Clone(p[:i+1])
			sooner[i].Start--
			_, e := closing.CheckPassages(l, turn, clear, sooner)
			want(t, fmt.Sprint("CheckPassages of ", sooner), e, api.ErrOrder)
		}
	}
}

func TestPlansAreParsedAsTheyWerePrinted(t *testing.T) {
	r := rand.New(rand.NewSource(319))
	for range 2 * rounds {
		l := randomPlan(r, 16, 1000)
		s, e := closing.Print(l)
		want(t, "error of Print", e, api.OK)
		again, i, e := closing.Parse(s)
		want(t, "Parse", []any{again, i, e}, []any{l, 0, api.OK})
	}
}

func TestTextsArePrintedAsTheyWereParsed(t *testing.T) {
	r := rand.New(rand.NewSource(320))
	read := 0
	for range 20 * rounds {
		text := []byte(ppText)
		text[r.Intn(len(text))] = "0123456789 \n-aceprsw"[r.Intn(20)]
		l, i, e := closing.Parse(string(text))
		if e != api.OK {
			continue
		}
		read++
		s, e := closing.Print(l)
		want(t, "Print", []any{s, i, e}, []any{string(text), 0, api.OK})
	}
	if read < rounds {
		t.Errorf("only %d texts are parsed", read)
	}
}

// between reports whether a ship is between the gates in the tick from one time on.
func between(l []closing.Ship, p []closing.Passage, tick int) bool {
	return slices.ContainsFunc(p, func(x closing.Passage) bool { return x.Start <= tick && tick < x.Start+l[x.Ship].Length })
}

// machine is the chart of a gate that starts to close if the conditions of a mask do not hold: with the mask 0 at any time, whatever the lock says.
func machine(mask int) gate.Chart {
	return gate.Chart{States: []gate.State{
		{Name: "open", Parent: -1, Initial: -1}, {Name: "lower", Parent: -1, Initial: -1, Moves: true}, {Name: "closed", Parent: -1, Initial: -1},
	}, Transitions: []gate.Transition{
		{From: 0, Event: "close", To: 1, Mask: mask}, {From: 1, Event: "done", To: 2},
	}}
}

// P7 and P9 of DOC.md: the gates are locked while a ship is between them. They are told to close at every tick, and move when the last ship has gone.
func TestNoShipIsBetweenTheGatesWhenTheyMove(t *testing.T) {
	r := rand.New(rand.NewSource(321))
	waited := 0
	for range rounds {
		l := randomShips(r, 6)
		turn, plan := r.Intn(4), pp()
		deadline := 11 + r.Intn(20)
		latest, e := closing.Latest(plan, deadline)
		want(t, "error of Latest", e, api.OK)
		clear := latest[2]
		p, _ := closing.Passages(l, turn, clear)
		for tick := clear; tick <= deadline; tick++ {
			want(t, "a ship is between the gates", between(l, p, tick), false)
		}
		c := machine(1)
		leaf, _ := gate.Start(c)
		for tick := range clear + 1 {
			in := gate.Input{Event: "close"}
			if slices.ContainsFunc(p, func(x closing.Passage) bool { return x.Start+l[x.Ship].Length > tick }) {
				in.Conditions = 1
				waited++
			}
			leaf, e = gate.Step(c, leaf, in)
			want(t, "error of Step", e, api.OK)
			want(t, "a ship is between gates that move", c.States[leaf].Moves && between(l, p, tick), false)
		}
		want(t, "the leaf in which the gates are", leaf, 1)
	}
	if waited < rounds {
		t.Errorf("the gates wait just %d ticks", waited)
	}
	// What can move against the lock is told.
	against, e := gate.Against(machine(0))
	want(t, "Against", []any{against[0], e}, []any{gate.Case{Leaf: 0, Event: "close", Conditions: 1}, api.OK})
	locked, e := gate.Against(machine(1))
	want(t, "Against of a gate with a lock", []any{slices.Contains(locked, against[0]), e}, []any{false, api.OK})
}

// P7 of DOC.md: an order comes as commands on both lines, some of them repeated; the gates are lowered in it, each one once.
func TestOrdersAreCommandedOnce(t *testing.T) {
	r := rand.New(rand.NewSource(322))
	ordered := 0
	for range rounds {
		g := randomGates(r, 8)
		order, e := closing.Order(g)
		if e != api.OK {
			continue
		}
		ordered++
		var commands []gate.Command
		for i, number := range order {
			for range 1 + r.Intn(4) {
				commands = append(commands, gate.Command{Number: i + 1, Line: r.Intn(2), Event: fmt.Sprint("gate", number)})
			}
		}
		r.Shuffle(len(commands), func(i, j int) { commands[i], commands[j] = commands[j], commands[i] })
		events, next, e := gate.Execute(commands)
		want(t, "Execute", []any{len(events), next, e}, []any{len(order), len(order) + 1, api.OK})
		var lowered []int
		for _, event := range events {
			lowered = append(lowered, int(event[len("gate")]-'0'))
		}
		want(t, "the gates that are lowered", lowered, order)
		want(t, "CheckOrder", closing.CheckOrder(g, lowered), api.OK)
	}
	if ordered < rounds/5 {
		t.Errorf("just %d gates have an order", ordered)
	}
}
