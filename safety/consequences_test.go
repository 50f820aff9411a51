package safety_test

import (
	"fmt"
	"math/rand"
	"slices"
	"strings"
	"testing"

	"tideway/api"
	"tideway/gate"
	"tideway/safety"
)

// P9.6, and P7 and P10 of DOC.md

func TestPermitsExcludeEachOtherWhicheverComesFirst(t *testing.T) {
	r := rand.New(rand.NewSource(411))
	excluded := 0
	for range 10 * rounds {
		a, b := randomPermit(r, fmt.Sprint("p", r.Intn(9))), randomPermit(r, fmt.Sprint("p", r.Intn(9)))
		one, e := safety.Exclude(a, b)
		other, f := safety.Exclude(b, a)
		want(t, "Exclude", []any{one, e}, []any{other, f})
		if one != "" {
			excluded++
		}
		// If one of them may not be issued besides the other one, so may not the other one.
		s := seasons(season(0, horizon, 2))
		want(t, "Issue", safety.Issue(permits(a), s, b), safety.Issue(permits(b), s, a))
	}
	if excluded < 2*rounds {
		t.Errorf("just %d permits exclude each other", excluded)
	}
}

// P10 of DOC.md, too: valid permits exclude each other as they say, tick by tick.
func TestValidPermitsDoNotGetInEachOthersWay(t *testing.T) {
	r := rand.New(rand.NewSource(412))
	together := 0
	for range rounds {
		s := randomSeasons(r)
		l := validPermits(r, s, 40)
		want(t, "Valid", safety.Valid(l, s), api.OK)
		clashes, e := safety.Clashes(l)
		want(t, "Clashes", []any{len(clashes), e}, []any{0, api.OK})
		for tick := range horizon {
			busy := slices.DeleteFunc(slices.Clone(l), func(p safety.Permit) bool { return !works(p, tick) })
			together += max(0, len(busy)-1)
			var crews, locks []string
			for _, p := range busy {
				crews, locks = append(crews, p.Crew), append(locks, p.Locks...)
			}
			wantDifferent(t, "crew", crews)
			wantDifferent(t, "thing that is locked", locks)
			for _, p := range busy {
				for _, other := range busy {
					if p.Name != other.Name && slices.Contains(p.Locks, other.Gate) {
						t.Errorf("%v works at a gate that %v locks", other, p)
					}
				}
			}
			out, e := safety.Out(l, tick)
			want(t, "error of Out", e, api.OK)
			if len(out) > permitted(s, tick) {
				t.Errorf("%v are out of service at %d by %v", out, tick, s)
			}
			locked, _ := safety.Locked(l, tick)
			slices.Sort(locks)
			want(t, "Locked", locked, locks)
		}
		// They are valid in any order.
		r.Shuffle(len(l), func(i, j int) { l[i], l[j] = l[j], l[i] })
		want(t, "Valid in another order", safety.Valid(l, s), api.OK)
	}
	if together < 5*rounds {
		t.Errorf("just %d permits are valid at the same tick as another one", together)
	}
}

// wantDifferent reports a name that comes twice.
func wantDifferent(t *testing.T, what string, l []string) {
	t.Helper()
	sorted := slices.Sorted(slices.Values(l))
	if len(slices.Compact(sorted)) < len(l) {
		t.Errorf("a %s comes twice: %v", what, l)
	}
}

func TestNoPermitMayBeIssuedBeforeItsEarliestTick(t *testing.T) {
	r := rand.New(rand.NewSource(413))
	later := 0
	for range 2 * rounds {
		s := randomSeasons(r)
		l := validPermits(r, s, 20)
		p := randomPermit(r, "new")
		length := p.Span.To - p.Span.From
		tick, e := safety.Earliest(l, s, p)
		if e != api.OK {
			want(t, "error of Earliest", e, api.ErrNone)
			tick = 2 * horizon
		} else {
			moved := p
			moved.Span = span(tick, tick+length)
			want(t, "Issue at the earliest tick", safety.Issue(l, s, moved), api.OK)
			want(t, "Valid", safety.Valid(append(slices.Clone(l), moved), s), api.OK)
		}
		for before := p.Span.From; before < tick; before++ {
			later++
			moved := p
			moved.Span = span(before, before+length)
			if safety.Issue(l, s, moved) == api.OK {
				t.Errorf("%v may be issued at %d besides %v", p, before, l)
			}
		}
	}
	if later < 2*rounds {
		t.Errorf("permits wait just %d ticks", later)
	}
}

func TestMoreValidEvidenceNeverOpensAClaim(t *testing.T) {
	r := rand.New(rand.NewSource(414))
	closed := 0
	for range 2 * rounds {
		c := randomCase(r)
		open, _ := safety.Open(c)
		fresh, _ := safety.Fresh(c)
		for len(fresh) < len(c.Evidence) {
			_, invalid := partition(c)
			renewed, e := safety.Renew(c, invalid[r.Intn(len(invalid))])
			want(t, "error of Renew", e, api.OK)
			more, _ := safety.Fresh(renewed)
			less, _ := safety.Open(renewed)
			want(t, "the number of Fresh", len(more), len(fresh)+1)
			for _, claim := range less {
				want(t, "was open", slices.Contains(open, claim), true)
			}
			closed += len(open) - len(less)
			c, open, fresh = renewed, less, more
		}
		want(t, "Open of a case whose evidence is all valid", open, names(""))
	}
	if closed < rounds/2 {
		t.Errorf("just %d claims hold by more evidence", closed)
	}
}

func TestAChangeReopensClaimsWhoseSupportItTouches(t *testing.T) {
	r := rand.New(rand.NewSource(415))
	reopened := 0
	for range 3 * rounds {
		c := randomCase(r)
		thing, number := fmt.Sprint("t", r.Intn(len(c.Versions))), r.Intn(3)
		l, e := safety.Reopened(c, thing, number)
		want(t, "error of Reopened", e, api.OK)
		reopened += len(l)
		for _, claim := range claimNames(c) {
			support, e := safety.Support(c, claim)
			touched := slices.ContainsFunc(c.Evidence, func(x safety.Evidence) bool {
				found := func(v safety.Version) bool { return v.Thing == thing && v.Number != number }
				return slices.Contains(support, x.Name) && slices.ContainsFunc(x.With, found)
			})
			if slices.Contains(l, claim) && (e != api.OK || !touched) {
				t.Errorf("%s of %v is reopened by %s %d", claim, c, thing, number)
			}
		}
	}
	if reopened < rounds/2 {
		t.Errorf("just %d claims are reopened", reopened)
	}
}

// P10 of DOC.md, too: a claim rests on evidence for the present versions, or is open.
func TestAClaimRestsOnItsSupportOrIsOpen(t *testing.T) {
	r := rand.New(rand.NewSource(416))
	resting, open := 0, 0
	for range 2 * rounds {
		c := randomCase(r)
		l, _ := safety.Open(c)
		for _, claim := range claimNames(c) {
			support, e := safety.Support(c, claim)
			if slices.Contains(l, claim) {
				open++
				wantError(t, "Support", support, e, api.ErrOpen)
				wantLackRenewed(t, c, claim)
				continue
			}
			resting++
			want(t, "error of Support", e, api.OK)
			want(t, "CheckSupport", safety.CheckSupport(c, claim, support), api.OK)
			needed, _ := safety.Needed(c, claim)
			for _, name := range needed {
				want(t, "the support has what is needed", slices.Contains(support, name), true)
			}
			for _, x := range c.Evidence {
				if slices.Contains(support, x.Name) {
					want(t, "the support is valid", isPresent(c, x), true)
				}
			}
			wantRest(t, c, claim, support)
		}
	}
	if resting < rounds || open < rounds/2 {
		t.Errorf("%d claims hold, %d are open", resting, open)
	}
}

// wantLackRenewed checks that an open claim holds when what it lacks is renewed, and not before.
func wantLackRenewed(t *testing.T, c safety.Case, claim string) {
	t.Helper()
	lacks, e := safety.Lacks(c, claim)
	want(t, "error of Lacks", e, api.OK)
	for _, name := range lacks {
		holds, _ := safety.Holds(c, claim)
		want(t, "Holds before all is renewed", holds, false)
		c, _ = safety.Renew(c, name)
	}
	holds, _ := safety.Holds(c, claim)
	want(t, "Holds", holds, true)
}

// wantRest checks that a claim holds by its support if all other evidence is found with a past version, and not without any one piece of it.
func wantRest(t *testing.T, c safety.Case, claim string, support []string) {
	t.Helper()
	holdsBy := func(l []string) bool {
		past := safety.Case{Versions: append(slices.Clone(c.Versions), version("past", 1)), Claims: c.Claims}
		for _, x := range c.Evidence {
			if !slices.Contains(l, x.Name) {
				x.With = []safety.Version{version("past", 0)}
			}
			past.Evidence = append(past.Evidence, x)
		}
		holds, e := safety.Holds(past, claim)
		want(t, "error of Holds", e, api.OK)
		return holds
	}
	want(t, "holds by the support", holdsBy(support), true)
	for i := range support {
		want(t, "holds by less", holdsBy(slices.Delete(slices.Clone(support), i, i+1)), false)
	}
}

func TestWhatIsRenewedIsValid(t *testing.T) {
	r := rand.New(rand.NewSource(417))
	for range 2 * rounds {
		c := randomCase(r)
		for i, x := range c.Evidence {
			renewed, e := safety.Renew(c, x.Name)
			want(t, "error of Renew", e, api.OK)
			fresh, _ := safety.Fresh(renewed)
			want(t, "is fresh", slices.Contains(fresh, x.Name), true)
			// Nothing else changes.
			for n, v := range renewed.Evidence[i].With {
				want(t, "the thing", v.Thing, x.With[n].Thing)
			}
			want(t, "the number of versions", len(renewed.Evidence[i].With), len(x.With))
			renewed.Evidence[i] = x
			want(t, "the rest", renewed, c)
		}
	}
}

func TestCasesAreParsedAsTheyWerePrinted(t *testing.T) {
	r := rand.New(rand.NewSource(418))
	for range 2 * rounds {
		c := randomCase(r)
		s, e := safety.Print(c)
		want(t, "error of Print", e, api.OK)
		again, i, e := safety.Parse(s)
		want(t, "Parse", []any{again, i, e}, []any{c, 0, api.OK})
	}
}

func TestTextsArePrintedAsTheyWereParsed(t *testing.T) {
	r := rand.New(rand.NewSource(419))
	read := 0
	for range 20 * rounds {
		text := []byte(exampleText)
		text[r.Intn(len(text))] = "0123456789 \n-aceghlmnotuxz"[r.Intn(26)]
		c, i, e := safety.Parse(string(text))
		if e != api.OK {
			continue
		}
		read++
		s, e := safety.Print(c)
		want(t, "Print", []any{s, i, e}, []any{string(text), 0, api.OK})
	}
	if read < rounds {
		t.Errorf("only %d texts are parsed", read)
	}
}

// P7 of DOC.md: the orders to issue permits come as commands on both lines, some of them repeated. Each permit is issued once: the second time it would be refused.
func TestPermitsAreIssuedOnceByCommands(t *testing.T) {
	r := rand.New(rand.NewSource(420))
	repeated := 0
	for range rounds {
		s := randomSeasons(r)
		l := validPermits(r, s, 20)
		var commands []gate.Command
		for i, p := range l {
			for range 1 + r.Intn(3) {
				commands = append(commands, gate.Command{Number: i + 1, Line: r.Intn(2), Event: p.Name})
			}
		}
		repeated += len(commands) - len(l)
		r.Shuffle(len(commands), func(i, j int) { commands[i], commands[j] = commands[j], commands[i] })
		events, next, e := gate.Execute(commands)
		want(t, "Execute", []any{len(events), next, e}, []any{len(l), len(l) + 1, api.OK})
		var issued []safety.Permit
		for i, name := range events {
			want(t, "the name", name, l[i].Name)
			want(t, "Issue", safety.Issue(issued, s, l[i]), api.OK)
			issued = append(issued, l[i])
			want(t, "Issue of the same permit", safety.Issue(issued, s, l[i]), api.ErrTwice)
		}
		want(t, "the permits that are issued", issued, l)
	}
	if repeated < rounds {
		t.Errorf("just %d commands are repeated", repeated)
	}
}

// machine is the chart of a gate that starts to close if the conditions of a mask do not hold: with the mask 0 at any time, whatever the lock says.
func machine(mask int) gate.Chart {
	return gate.Chart{States: []gate.State{
		{Name: "open", Parent: -1, Initial: -1}, {Name: "lower", Parent: -1, Initial: -1, Moves: true}, {Name: "closed", Parent: -1, Initial: -1},
	}, Transitions: []gate.Transition{
		{From: 0, Event: "close", To: 1, Mask: mask}, {From: 1, Event: "done", To: 2},
	}}
}

// P7 of DOC.md: a gate is locked while it is out of service. It is told to close at every tick, and moves when nobody works at it.
func TestNoGateMovesWhileItIsOutOfService(t *testing.T) {
	r := rand.New(rand.NewSource(421))
	waited := 0
	for range rounds {
		l := validPermits(r, seasons(season(0, horizon, 3)), 30)
		for _, number := range names("g0 g1 g2 g3") {
			c := machine(1)
			leaf, _ := gate.Start(c)
			for tick := range horizon {
				out, e := safety.Out(l, tick)
				want(t, "error of Out", e, api.OK)
				in := gate.Input{Event: "close"}
				if slices.Contains(out, number) {
					in.Conditions = 1
					waited++
				}
				before := leaf
				leaf, e = gate.Step(c, leaf, in)
				want(t, "error of Step", e, api.OK)
				isWorkedAt := slices.ContainsFunc(l, func(p safety.Permit) bool { return p.Gate == number && works(p, tick) })
				want(t, "the gate starts to move", before != leaf && isWorkedAt, false)
				if !isWorkedAt {
					want(t, "the leaf of the gate", c.States[leaf].Name, "lower")
					break
				}
			}
		}
	}
	if waited < rounds {
		t.Errorf("gates wait just %d ticks", waited)
	}
	// What can move against the lock is told.
	against, e := gate.Against(machine(0))
	want(t, "Against", []any{against[0], e}, []any{gate.Case{Leaf: 0, Event: "close", Conditions: 1}, api.OK})
	locked, e := gate.Against(machine(1))
	want(t, "Against of a gate with a lock", []any{slices.Contains(locked, against[0]), e}, []any{false, api.OK})
}

func TestTheTextOfAChangedCaseDiffersInALine(t *testing.T) {
	c, e := safety.Change(example(), "model", 3)
	want(t, "error of Change", e, api.OK)
	s, e := safety.Print(c)
	want(t, "Print", []any{s, e}, []any{strings.Replace(exampleText, "version model 2", "version model 3", 1), api.OK})
	c, e = safety.Renew(c, "e1")
	want(t, "error of Renew", e, api.OK)
	s, e = safety.Print(c)
	want(t, "Print", []any{s, e}, []any{strings.ReplaceAll(exampleText, "model 2", "model 3"), api.OK})
}
