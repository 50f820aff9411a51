package safety_test

import (
	"fmt"
	"math/rand"
	"slices"
	"strings"
	"testing"

	"tideway/api"
	"tideway/safety"
)

// P9.3

func TestCheckCase(t *testing.T) {
	long := strings.Repeat("Z", 24)
	for _, c := range []safety.Case{
		{}, example(), fullCase(), {Versions: []safety.Version{version("a", 0), version(long, 999)}}, {Evidence: []safety.Evidence{evidence("a"), evidence(long)}},
		// A thing may have the name of evidence or of a claim, and evidence may have any versions of its things.
		changed(func(c *safety.Case) {
			c.Versions = append(c.Versions, version("e1", 0), version("top", 0), version("x9", 5))
		}),
		changed(func(c *safety.Case) {
			c.Evidence[2].With = []safety.Version{version("gate", 999), version("model", 0)}
		}),
		changed(func(c *safety.Case) { c.Claims[2].Uses = names("shut e3 safe e1 e2") }),
		changed(func(c *safety.Case) { c.Claims = c.Claims[:0] }),
	} {
		want(t, "CheckCase", safety.CheckCase(c), api.OK)
	}
	for i, bad := range badCases() {
		want(t, "CheckCase", []any{i, safety.CheckCase(*bad.x)}, []any{i, bad.e})
	}
}

// caseCalls calls all functions with a case, and with the same other arguments.
func caseCalls(c safety.Case, name string, number int, l []string) map[string][]any {
	out := map[string][]any{"CheckSupport": {0, safety.CheckSupport(c, name, l)}}
	for what, f := range map[string]func(c safety.Case, name string) ([]string, api.Errno){
		"Support": safety.Support, "Needed": safety.Needed, "Lacks": safety.Lacks,
		"Fresh":    func(c safety.Case, _ string) ([]string, api.Errno) { return safety.Fresh(c) },
		"Open":     func(c safety.Case, _ string) ([]string, api.Errno) { return safety.Open(c) },
		"Reopened": func(c safety.Case, name string) ([]string, api.Errno) { return safety.Reopened(c, name, number) },
	} {
		found, e := f(c, name)
		out[what] = []any{found, e}
	}
	holds, e := safety.Holds(c, name)
	out["Holds"] = []any{holds, e}
	other, e := safety.Change(c, name, number)
	out["Change"] = []any{other, e}
	renewed, e := safety.Renew(c, name)
	out["Renew"] = []any{renewed, e}
	text, e := safety.Print(c)
	out["Print"] = []any{text, e}
	return out
}

// The error of the case goes before those of all other arguments.
func TestBadCasesInAllFunctions(t *testing.T) {
	for _, bad := range badCases() {
		for _, name := range []string{"", "top", "e1", "model"} {
			results := caseCalls(*bad.x, name, 1000, names("x x"))
			want(t, "calls", len(results), 11)
			for what, result := range results {
				wantError(t, what, result[0], result[1].(api.Errno), bad.e)
			}
		}
	}
}

func TestUnknownNames(t *testing.T) {
	c := changed(func(c *safety.Case) { c.Versions = append(c.Versions, version("other", 1)) })
	for _, row := range []struct {
		of   string   // the kind of things that functions ask for
		what []string // the functions
		bad  []string
	}{
		{"claims", names("Holds Support CheckSupport Needed Lacks"), []string{"", "e1", "e3", "model", "Top", "tops", "to", "9"}},
		{"evidence", names("Renew"), []string{"", "safe", "top", "model", "E1", "e", "e11", "e4"}},
		{"things", names("Change Reopened"), []string{"", "safe", "e1", "Model", "models", "mode", "9"}},
	} {
		for _, name := range row.bad {
			for _, number := range []int{-1, 0, 1000} {
				results := caseCalls(c, name, number, names("x x"))
				for _, what := range row.what {
					wantError(t, fmt.Sprint(what, " of ", row.of), results[what][0], results[what][1].(api.Errno), api.ErrUnknown)
				}
			}
		}
	}
}

func TestFreshHoldsAndOpen(t *testing.T) {
	for i, row := range []struct {
		c           safety.Case
		fresh, open string
	}{
		{example(), "e1 e3", ""}, {safety.Case{}, "", ""}, // example 3
		{changed(func(c *safety.Case) { c.Versions[0].Number = 3 }), "e3", "safe top"}, // example 4
		{changed(func(c *safety.Case) { c.Versions[0].Number = 1 }), "e2 e3", "safe top"},
		{changed(func(c *safety.Case) { c.Versions[1].Number = 2 }), "e1 e3", ""},
		{changed(func(c *safety.Case) { c.Evidence[2].With = []safety.Version{version("gate", 2)} }), "e1", "safe shut top"},
		{changed(func(c *safety.Case) { c.Evidence[1].With[1].Number = 2 }), "e1 e2 e3", ""},
		{changed(func(c *safety.Case) { c.Claims[0].Any, c.Versions[0].Number = true, 3 }), "e3", ""},
		{changed(func(c *safety.Case) { c.Claims[1].Any = false }), "e1 e3", "shut top"},
		{changed(func(c *safety.Case) { c.Claims[1].Any, c.Claims[2].Any = false, true }), "e1 e3", "shut"},
		{changed(func(c *safety.Case) { c.Claims[1] = all("shut", "e2") }), "e1 e3", "shut top"},
		{changed(func(c *safety.Case) { c.Claims[1] = some("shut", "e2") }), "e1 e3", "shut top"},
		{changed(func(c *safety.Case) { c.Claims[1] = some("shut", "e3 e2") }), "e1 e3", ""},
		// Claims rest on those before them, in any order.
		{safety.Case{Versions: []safety.Version{version("t", 1)}, Evidence: []safety.Evidence{evidence("e", version("t", 0))}, Claims: []safety.Claim{all("z", "e"), some("a", "z e"), all("m", "a"), some("b", "m a z")}}, "", "z a m b"},
		{safety.Case{Versions: []safety.Version{version("t", 0)}, Evidence: []safety.Evidence{evidence("e", version("t", 0))}, Claims: []safety.Claim{all("z", "e"), some("a", "z e"), all("m", "a"), some("b", "m a z")}}, "e", ""},
		{fullCase(), strings.Join(series("e", 64), " "), ""},
	} {
		fresh, e := safety.Fresh(row.c)
		want(t, "Fresh", []any{i, fresh, e}, []any{i, names(row.fresh), api.OK})
		open, e := safety.Open(row.c)
		want(t, "Open", []any{i, open, e}, []any{i, names(row.open), api.OK})
		for _, claim := range claimNames(row.c) {
			holds, e := safety.Holds(row.c, claim)
			want(t, "Holds", []any{i, claim, holds, e}, []any{i, claim, !slices.Contains(open, claim), api.OK})
		}
	}
}

func TestChange(t *testing.T) {
	for _, row := range []struct {
		thing  string
		number int
		want   []safety.Version
	}{
		{"model", 3, []safety.Version{version("model", 3), version("gate", 1)}}, {"model", 2, []safety.Version{version("model", 2), version("gate", 1)}}, {"gate", 0, []safety.Version{version("model", 2), version("gate", 0)}}, {"gate", 999, []safety.Version{version("model", 2), version("gate", 999)}},
	} {
		c, e := safety.Change(example(), row.thing, row.number)
		want(t, "Change", []any{c, e}, []any{changed(func(c *safety.Case) { c.Versions = row.want }), api.OK})
	}
}

func TestReopened(t *testing.T) {
	for i, row := range []struct {
		c      safety.Case
		thing  string
		number int
		want   string
	}{
		{example(), "model", 3, "safe top"}, {example(), "model", 2, ""}, {example(), "model", 1, "safe top"}, {example(), "gate", 7, ""}, // example 4
		// What was open before is not reopened.
		{changed(func(c *safety.Case) { c.Claims[1] = all("shut", "e2") }), "model", 3, "safe"},
		{changed(func(c *safety.Case) { c.Versions[0].Number = 3 }), "model", 2, ""}, {changed(func(c *safety.Case) { c.Versions[0].Number = 3 }), "gate", 2, ""},
		{changed(func(c *safety.Case) { c.Evidence[2].With = []safety.Version{version("gate", 1)} }), "gate", 2, "safe shut top"},
		// A change can replace evidence by another piece.
		{changed(func(c *safety.Case) { c.Claims[1] = some("shut", "e1 e2") }), "model", 1, "safe top"}, {changed(func(c *safety.Case) { c.Claims[1] = some("shut", "e1 e2") }), "model", 3, "safe shut top"},
	} {
		reopened, e := safety.Reopened(row.c, row.thing, row.number)
		want(t, "Reopened", []any{i, reopened, e}, []any{i, names(row.want), api.OK})
	}
}

func TestErrorsOfChanges(t *testing.T) {
	for _, n := range outside(0, 999) {
		for _, thing := range names("model gate") {
			c, e := safety.Change(example(), thing, n)
			wantError(t, "Change", c, e, api.ErrRange)
			l, e := safety.Reopened(example(), thing, n)
			wantError(t, "Reopened", l, e, api.ErrRange)
		}
	}
}

func TestRenew(t *testing.T) {
	for _, row := range []struct {
		c    safety.Case
		name string
		i    int
		with []safety.Version
	}{
		{example(), "e1", 0, []safety.Version{version("model", 2)}}, {example(), "e2", 1, []safety.Version{version("gate", 1), version("model", 2)}}, {example(), "e3", 2, nil},
		{changed(func(c *safety.Case) { c.Versions[0].Number = 3 }), "e1", 0, []safety.Version{version("model", 3)}}, // example 4
		{changed(func(c *safety.Case) { c.Versions = []safety.Version{version("model", 0), version("gate", 999)} }), "e2", 1, []safety.Version{version("gate", 999), version("model", 0)}},
	} {
		c, e := safety.Renew(row.c, row.name)
		want(t, "error of Renew", e, api.OK)
		row.c.Evidence[row.i].With = row.with
		want(t, "Renew", c, row.c)
	}
}

func TestCasesByDefinition(t *testing.T) {
	r := rand.New(rand.NewSource(403))
	open, changes := 0, 0
	for range 2 * rounds {
		c := randomCase(r)
		want(t, "CheckCase", safety.CheckCase(c), api.OK)
		valid, _ := partition(c)
		fresh, e := safety.Fresh(c)
		want(t, "Fresh", []any{fresh, e}, []any{valid, api.OK})
		l, e := safety.Open(c)
		want(t, "Open", []any{l, e}, []any{openClaims(c), api.OK})
		open += len(l)
		for _, claim := range claimNames(c) {
			holds, e := safety.Holds(c, claim)
			want(t, "Holds", []any{holds, e}, []any{holdsBy(c, claim, valid), api.OK})
		}
		thing, number := fmt.Sprint("t", r.Intn(len(c.Versions))), r.Intn(3)
		other, e := safety.Change(c, thing, number)
		want(t, "error of Change", e, api.OK)
		wantChange(t, c, other, thing, number)
		wasOpen, isOpen := openClaims(c), openClaims(other)
		reopened := slices.DeleteFunc(isOpen, func(name string) bool { return slices.Contains(wasOpen, name) })
		changes += len(reopened)
		got, e := safety.Reopened(c, thing, number)
		want(t, "Reopened", []any{got, e}, []any{reopened, api.OK})
	}
	if open < rounds || changes < rounds/2 {
		t.Errorf("%d claims are open, %d are reopened", open, changes)
	}
}

// wantChange checks that a case is another one but for the version of a thing.
func wantChange(t *testing.T, c, other safety.Case, thing string, number int) {
	t.Helper()
	want(t, "the evidence and the claims", []any{other.Evidence, other.Claims}, []any{c.Evidence, c.Claims})
	for i, v := range c.Versions {
		if v.Thing == thing {
			v.Number = number
		}
		want(t, "the version", other.Versions[i], v)
	}
}
