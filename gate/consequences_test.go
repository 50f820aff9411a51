package gate_test

import (
	"fmt"
	"math/rand"
	"slices"
	"testing"

	"tideway/api"
	"tideway/gate"
)

// P6.5, and P7 of DOC.md. Everything here is drawn from generators with fixed seeds.

const rounds = 300

// completed returns a chart without missing and ambiguous cases: for each leaf and event one transition for each value of a mask.
func completed(r *rand.Rand, c gate.Chart, names []string) gate.Chart {
	c.Transitions = nil
	for _, leaf := range leaves(c) {
		for _, event := range names {
			if len(c.Transitions) < 40 && r.Intn(2) == 0 {
				bit := 1 << r.Intn(4)
				c.Transitions = append(c.Transitions, move(leaf, event, r.Intn(len(c.States)), bit, 0), move(leaf, event, r.Intn(len(c.States)), bit, bit))
			} else {
				c.Transitions = append(c.Transitions, move(leaf, event, r.Intn(len(c.States)), 0, 0))
			}
		}
	}
	r.Shuffle(len(c.Transitions), func(i, j int) {
		c.Transitions[i], c.Transitions[j] = c.Transitions[j], c.Transitions[i]
	})
	return c
}

func TestRunsGoOnFromTheirLastLeaves(t *testing.T) {
	r := rand.New(rand.NewSource(131))
	longest := 0
	for range rounds {
		c := randomChart(r, 16)
		a, b := randomScript(r, c, 6), randomScript(r, c, 6)
		whole, e := gate.Run(c, slices.Concat(a, b))
		if e != api.OK {
			continue
		}
		longest = max(longest, len(whole))
		leaf, _ := gate.Start(c)
		before, e := gate.Run(c, a)
		want(t, "the first part", []any{before, e}, []any{whole[:len(a)], api.OK})
		if len(a) > 0 {
			leaf = before[len(a)-1]
		}
		for i, in := range b {
			leaf, e = gate.Step(c, leaf, in)
			want(t, "a step behind it", []any{leaf, e}, []any{whole[len(a)+i], api.OK})
		}
	}
	if longest < 8 {
		t.Errorf("the longest run has %d leaves", longest)
	}
}

func TestCompleteChartsHaveOneTransitionForEachInput(t *testing.T) {
	r := rand.New(rand.NewSource(132))
	for range rounds {
		c := completed(r, randomChart(r, 6), []string{"a", "b", "c"}[:1+r.Intn(3)])
		want(t, "CheckChart", gate.CheckChart(c), api.OK)
		missing, _ := gate.Missing(c)
		more, _ := gate.Ambiguous(c)
		want(t, "cases", len(missing)+len(more), 0)
		// Without any transition its cases are missing, with another one of its From it becomes ambiguous.
		i := r.Intn(len(c.Transitions))
		lost := c.Transitions[i]
		c.Transitions = append(c.Transitions, lost)
		more, _ = gate.Ambiguous(c)
		n := 16
		if lost.Mask != 0 {
			n = 8
		}
		want(t, "ambiguous cases", len(more), n)
		c.Transitions = slices.Delete(slices.Clone(c.Transitions[:len(c.Transitions)-1]), i, i+1)
		missing, _ = gate.Missing(c)
		if slices.Contains(events(c), lost.Event) {
			want(t, "missing cases", []any{len(missing), missing[0].Leaf, missing[0].Event}, []any{n, lost.From, lost.Event})
		}
	}
}

func TestCasesAreStepsOfOneKind(t *testing.T) {
	r := rand.New(rand.NewSource(133))
	for range rounds / 3 {
		c := randomChart(r, 10)
		missing, _ := gate.Missing(c)
		more, _ := gate.Ambiguous(c)
		for _, x := range allCases(c, leaves(c), func(gate.Case, int, int) bool { return true }) {
			to, e := gate.Step(c, x.Leaf, input(x.Event, x.Conditions))
			want(t, "ambiguous", slices.Contains(more, x), e == api.ErrConflict)
			if slices.Contains(missing, x) {
				want(t, "Step", []any{to, e}, []any{x.Leaf, api.OK})
			}
		}
	}
}

func TestJustTheReachableLeavesHaveTraces(t *testing.T) {
	r := rand.New(rand.NewSource(134))
	apart := 0
	for range rounds {
		c := randomChart(r, 16)
		reached, _ := gate.Reachable(c)
		for i := range c.States {
			l, e := gate.Trace(c, list(i))
			want(t, "a trace", e == api.OK, slices.Contains(reached, i))
			if e != api.OK {
				apart++
				continue
			}
			want(t, "CheckTrace", gate.CheckTrace(c, list(i), l), api.OK)
			if len(l) == 0 {
				continue
			}
			for range 10 {
				shorter := randomScript(r, c, len(l)-1)
				want(t, "a shorter trace", gate.CheckTrace(c, list(i), shorter) != api.OK, true)
			}
		}
	}
	if apart < rounds {
		t.Errorf("only %d states have no trace", apart)
	}
}

// repeated returns commands that come again, in another order, and on other lines.
func repeated(r *rand.Rand, l []gate.Command) []gate.Command {
	out := slices.Clone(l)
	for range r.Intn(10) {
		if len(l) > 0 {
			out = append(out, l[r.Intn(len(l))])
		}
	}
	for i := range out {
		out[i].Line = r.Intn(2)
	}
	r.Shuffle(len(out), func(i, j int) { out[i], out[j] = out[j], out[i] })
	return out
}

// randomCommands returns commands with numbers from 1 on, some of which are missing, with the events of a chart.
func randomCommands(r *rand.Rand, c gate.Chart) []gate.Command {
	names := append(events(c), "other")
	var out []gate.Command
	for n := range r.Intn(12) {
		if r.Intn(6) > 0 {
			out = append(out, command(n+1, r.Intn(2), names[r.Intn(len(names))]))
		}
	}
	return out
}

// P7 of DOC.md, too: a chart that gets the commands over both lines runs as it does by each command once.
func TestRepeatedCommandsHaveTheEffectOfOne(t *testing.T) {
	r := rand.New(rand.NewSource(135))
	executed := 0
	for range rounds {
		c := randomChart(r, 10)
		l := randomCommands(r, c)
		again := repeated(r, l)
		once, next, e := gate.Execute(l)
		twice, same, wrong := gate.Execute(again)
		want(t, "Execute", []any{twice, same, wrong}, []any{once, next, api.OK})
		want(t, "error", e, api.OK)
		lost, _ := gate.Lost(l, 20)
		still, e := gate.Lost(again, 20)
		want(t, "Lost", []any{still, e}, []any{lost, api.OK})
		want(t, "the first lost one", lost[0], next)
		first, e := gate.Run(c, script(once...))
		second, wrong := gate.Run(c, script(twice...))
		want(t, "Run", []any{second, wrong}, []any{first, e})
		executed += len(twice)
	}
	if executed < rounds {
		t.Errorf("only %d commands are executed", executed)
	}
}

// Commands that come late are executed when the missing ones have come: what was executed before stays.
func TestCommandsThatComeLate(t *testing.T) {
	r := rand.New(rand.NewSource(136))
	for range rounds {
		l := repeated(r, randomCommands(r, gg()))
		var before []string
		for i := range len(l) + 1 {
			now, next, e := gate.Execute(l[:i])
			want(t, "Execute", []any{now[:len(before)], next, e}, []any{before, len(now) + 1, api.OK})
			before = now
		}
	}
}

// lockedScript returns inputs of the events of a chart that come while the gate is locked.
func lockedScript(r *rand.Rand, c gate.Chart) []gate.Input {
	names := events(c)
	var out []gate.Input
	for range 1 + r.Intn(6) {
		out = append(out, input(names[r.Intn(len(names))], locked[r.Intn(8)]))
	}
	return out
}

// P7 of DOC.md, too: whatever moves while it is locked is told.
func TestWhatIsAgainstTheLockIsTold(t *testing.T) {
	r := rand.New(rand.NewSource(137))
	safe, unsafe := 0, 0
	for range 4 * rounds {
		c := randomChart(r, 5)
		if len(c.Transitions) == 0 {
			continue
		}
		against, e := gate.Against(c)
		want(t, "Against", e, api.OK)
		reached, _ := gate.Reachable(c)
		way, e := gate.Trace(c, list(reached[r.Intn(len(reached))]))
		want(t, "Trace", e, api.OK)
		more := lockedScript(r, c)
		run, e := gate.Run(c, slices.Concat(way, more))
		if e != api.OK {
			continue
		}
		start, _ := gate.Start(c)
		course := append(list(start), run...)[len(way):]
		for i, in := range more {
			moves := c.States[course[i+1]].Moves
			told := slices.Contains(against, gate.Case{Leaf: course[i], Event: in.Event, Conditions: in.Conditions})
			want(t, "told", told, moves)
			if moves {
				unsafe++
			}
		}
		if len(against) == 0 {
			safe++
		}
	}
	if safe < 100 || unsafe < 100 {
		t.Errorf("%d charts have nothing against the lock, %d steps are", safe, unsafe)
	}
}

func TestChartsAreParsedAsTheyWerePrinted(t *testing.T) {
	r := rand.New(rand.NewSource(138))
	for range rounds {
		c := randomChart(r, 16)
		s, e := gate.Print(c)
		want(t, "Print", e, api.OK)
		again, i, e := gate.Parse(s)
		want(t, "Parse", []any{again, i, e}, []any{c, 0, api.OK})
	}
}

func TestTextsArePrintedAsTheyWereParsed(t *testing.T) {
	r := rand.New(rand.NewSource(139))
	read := 0
	for range 20 * rounds {
		text := []byte(ggText)
		text[r.Intn(len(text))] = "0123456789 \n-adelmopst"[r.Intn(22)]
		c, i, e := gate.Parse(string(text))
		if e != api.OK {
			continue
		}
		read++
		s, e := gate.Print(c)
		want(t, "Print", []any{s, i, e}, []any{string(text), 0, api.OK})
	}
	if read < rounds {
		t.Errorf("only %d texts are parsed", read)
	}
}

// A failure that changes nothing leaves the run as it is, and one at a tick leaves the ticks before it as they are.
func TestFailuresComeAtTheirTicks(t *testing.T) {
	r := rand.New(rand.NewSource(140))
	for range rounds {
		c := randomChart(r, 6)
		l := randomScript(r, c, 6)
		run, e := gate.Run(c, l)
		all, _ := gate.Failures(l)
		same, wrong := gate.Play(c, l, all[0])
		want(t, "Play", []any{same, wrong}, []any{run, e})
		if e != api.OK {
			continue
		}
		for _, f := range all[1:] {
			got, e := gate.Play(c, l, f)
			if e == api.OK {
				want(t, fmt.Sprint("Play before ", f), got[:f.At], run[:f.At])
			}
		}
	}
}
