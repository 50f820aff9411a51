package safety_test

import (
	"fmt"
	"math/rand"
	"slices"
	"testing"

	"tideway/api"
	"tideway/safety"
)

// P9.4

// second is the example with the version 3 of the model: e1 and e2 are not valid.
func second() safety.Case {
	return changed(func(c *safety.Case) { c.Versions[0].Number = 3 })
}

// ways is a case with several supports of its claims; all its evidence is valid.
func ways() safety.Case {
	return safety.Case{
		Versions: []safety.Version{version("t", 1)},
		Evidence: []safety.Evidence{evidence("a"), evidence("b", version("t", 1)), evidence("c"), evidence("d", version("t", 1))},
		Claims:   []safety.Claim{all("ab", "b a"), all("cd", "c d"), some("either", "cd ab"), some("one", "d c b"), all("both", "either one"), some("loose", "both a")},
	}
}

// past is the same case with no valid evidence that has a version.
func past() safety.Case {
	c := ways()
	c.Versions[0].Number = 2
	return c
}

func TestSupportAndNeeded(t *testing.T) {
	for i, row := range []struct {
		c                      safety.Case
		claim, support, needed string
	}{
		{example(), "top", "e1 e3", "e1 e3"}, {example(), "shut", "e3", "e3"}, {example(), "safe", "e1 e3", "e1 e3"}, {second(), "shut", "e3", "e3"}, // examples 4, 5
		{changed(func(c *safety.Case) { c.Evidence[1].With[1].Number = 2 }), "shut", "e2", ""}, {changed(func(c *safety.Case) { c.Evidence[1].With[1].Number = 2 }), "top", "e1 e3", "e1 e3"},
		// The later pieces are left out first.
		{ways(), "ab", "a b", "a b"}, {ways(), "cd", "c d", "c d"}, {ways(), "either", "a b", ""}, {ways(), "one", "b", ""}, {ways(), "both", "a b", ""}, {ways(), "loose", "a", ""},
		{past(), "one", "c", "c"}, {past(), "loose", "a", "a"},
		{fullCase(), "c000", "e000 e001 e002 e003 e004 e005 e006 e007 e008 e009 e010 e011 e012 e013 e014 e015", "e000 e001 e002 e003 e004 e005 e006 e007 e008 e009 e010 e011 e012 e013 e014 e015"},
	} {
		support, e := safety.Support(row.c, row.claim)
		want(t, "Support", []any{i, support, e}, []any{i, names(row.support), api.OK})
		needed, e := safety.Needed(row.c, row.claim)
		want(t, "Needed", []any{i, needed, e}, []any{i, names(row.needed), api.OK})
		want(t, "CheckSupport", safety.CheckSupport(row.c, row.claim, names(row.support)), api.OK)
		lacks, e := safety.Lacks(row.c, row.claim)
		wantError(t, "Lacks", lacks, e, api.ErrNone)
	}
}

func TestLacks(t *testing.T) {
	renewed, _ := safety.Renew(second(), "e1")
	for i, row := range []struct {
		c            safety.Case
		claim, lacks string
	}{
		{second(), "safe", "e1"}, {second(), "top", "e1"}, // example 4
		{past(), "ab", "b"}, {past(), "cd", "d"}, {past(), "either", "b"}, {past(), "both", "b"},
		// Pieces that are lacking together.
		{safety.Case{Versions: []safety.Version{version("t", 1)}, Evidence: []safety.Evidence{evidence("a", version("t", 0)), evidence("b"), evidence("c", version("t", 2)), evidence("d", version("t", 2))}, Claims: []safety.Claim{some("x", "c d"), all("y", "b a x")}}, "y", "a c"},
	} {
		lacks, e := safety.Lacks(row.c, row.claim)
		want(t, "Lacks", []any{i, lacks, e}, []any{i, names(row.lacks), api.OK})
		support, e := safety.Support(row.c, row.claim)
		wantError(t, "Support", support, e, api.ErrOpen)
		needed, e := safety.Needed(row.c, row.claim)
		wantError(t, "Needed", needed, e, api.ErrOpen)
	}
	holds, e := safety.Holds(renewed, "top") // example 4
	want(t, "Holds", []any{holds, e}, []any{true, api.OK})
}

func TestCheckSupport(t *testing.T) {
	twoWays := changed(func(c *safety.Case) { c.Evidence[1].With[1].Number = 2 })
	for _, row := range []struct {
		c        safety.Case
		claim, l string
		e        api.Errno
	}{
		{example(), "top", "e1 e3", api.OK}, {example(), "shut", "e3", api.OK}, {twoWays, "shut", "e2", api.OK}, {twoWays, "shut", "e3", api.OK}, {ways(), "either", "c d", api.OK}, {ways(), "either", "a b", api.OK}, {ways(), "one", "d", api.OK}, {ways(), "one", "c", api.OK}, {ways(), "one", "b", api.OK}, {ways(), "loose", "a", api.OK}, {ways(), "both", "c d", api.OK},
		// Not valid, although the claim holds by it.
		{example(), "shut", "e2", api.ErrProof}, {example(), "shut", "e2 e3", api.ErrProof}, {second(), "safe", "e1 e3", api.ErrProof}, {past(), "loose", "b c", api.ErrProof},
		// Not enough.
		{example(), "top", "", api.ErrProof}, {example(), "top", "e1", api.ErrProof}, {example(), "top", "e3", api.ErrProof}, {second(), "safe", "e3", api.ErrProof}, {ways(), "either", "a c", api.ErrProof}, {ways(), "both", "c", api.ErrProof}, {past(), "either", "a c", api.ErrProof},
		// Too much.
		{twoWays, "shut", "e2 e3", api.ErrProof}, {example(), "shut", "e1 e3", api.ErrProof}, {ways(), "either", "a b c", api.ErrProof}, {ways(), "either", "a b c d", api.ErrProof}, {ways(), "one", "b c", api.ErrProof}, {ways(), "ab", "a b c", api.ErrProof}, {ways(), "loose", "a b", api.ErrProof}, {ways(), "loose", "b c d", api.ErrProof},
		// The first name with an error decides.
		{example(), "top", "e3 e1", api.ErrOrder}, {example(), "top", "e1 e1", api.ErrOrder}, {example(), "top", "e1 e3 e3", api.ErrOrder}, {example(), "top", "e3 e2 x", api.ErrOrder}, {example(), "top", "x", api.ErrUnknown}, {example(), "top", "e1 x e1", api.ErrUnknown}, {example(), "top", "e1 safe", api.ErrUnknown}, {example(), "top", "e1 e3 model", api.ErrUnknown}, {example(), "top", "E1", api.ErrUnknown}, {second(), "top", "e2 e1", api.ErrOrder},
	} {
		want(t, fmt.Sprint("CheckSupport of ", row.claim, " by ", row.l), safety.CheckSupport(row.c, row.claim, names(row.l)), row.e)
	}
	want(t, "CheckSupport by many names", safety.CheckSupport(example(), "top", slices.Repeat(names("e1"), 3000)), api.ErrOrder)
	want(t, "CheckSupport by the empty name", safety.CheckSupport(example(), "top", []string{"e1", ""}), api.ErrUnknown)
}

func TestSupportsByDefinition(t *testing.T) {
	r := rand.New(rand.NewSource(404))
	supports, lacking, several := 0, 0, 0
	for range rounds {
		c := randomCase(r)
		valid, invalid := partition(c)
		for _, claim := range claimNames(c) {
			isEnough := func(by []string) bool { return holdsBy(c, claim, by) }
			support, e := safety.Support(c, claim)
			needed, open := safety.Needed(c, claim)
			lacks, none := safety.Lacks(c, claim)
			if !isEnough(valid) {
				lacking++
				wantError(t, "Support", support, e, api.ErrOpen)
				wantError(t, "Needed", needed, open, api.ErrOpen)
				wanted := leastOf(invalid, func(l []string) bool { return isEnough(slices.Concat(l, valid)) })
				want(t, "Lacks", []any{lacks, none}, []any{wanted, api.OK})
				continue
			}
			want(t, "Support", []any{support, e}, []any{leastOf(valid, isEnough), api.OK})
			want(t, "Needed", []any{needed, open}, []any{inAll(valid, isEnough), api.OK})
			wantError(t, "Lacks", lacks, none, api.ErrNone)
		}
		for _, claim := range claimNames(c) {
			found := wantSupports(t, c, claim)
			supports += found
			if found > 1 {
				several++
			}
		}
	}
	if supports < rounds || lacking < rounds/2 || several < rounds/5 {
		t.Errorf("there are %d supports, %d claims lack something, %d have several supports", supports, lacking, several)
	}
}

// inAll returns the names that are in all subsets which are enough.
func inAll(l []string, isEnough func(l []string) bool) []string {
	out := l
	for bits := range 1 << len(l) {
		if s := subset(l, bits); isEnough(s) {
			out = slices.DeleteFunc(slices.Clone(out), func(name string) bool { return !slices.Contains(s, name) })
		}
	}
	return out
}

// wantSupports checks all lists of evidence in order, and returns how many of them are supports of a claim: of no other one that is enough they have all.
func wantSupports(t *testing.T, c safety.Case, claim string) int {
	t.Helper()
	valid, invalid := partition(c)
	pieces := make([]string, 0, len(c.Evidence))
	for _, x := range c.Evidence {
		pieces = append(pieces, x.Name)
	}
	var supports []int
	for bits := range 1 << len(pieces) {
		l := subset(pieces, bits)
		e := api.ErrProof
		hasLess := slices.ContainsFunc(supports, func(less int) bool { return less&bits == less })
		isInvalid := slices.ContainsFunc(l, func(name string) bool { return slices.Contains(invalid, name) })
		if !hasLess && !isInvalid && holdsBy(c, claim, l) {
			supports = append(supports, bits)
			e = api.OK
		}
		want(t, fmt.Sprint("CheckSupport by ", l, " of ", valid), safety.CheckSupport(c, claim, l), e)
	}
	return len(supports)
}
