package safety_test

import (
	"fmt"
	"math"
	"math/rand"
	"slices"
	"testing"

	"tideway/api"
	"tideway/safety"
)

// P1 of DOC.md, and its rules about memory.

// strange are numbers that are too small, good, or too large.
func strange() []int {
	return []int{math.MinInt, -1, 0, 1, 2, 64, 1000, 100000, math.MaxInt}
}

// strangePermits returns permits with everything that they may not be, and some that have no error.
func strangePermits() [][]safety.Permit {
	out := [][]safety.Permit{nil, permits(pa(), pb(), pc()), permits(pa(), pa()), crowd(64, 20), crowd(63, 64), crowd(100, 9)}
	for _, bad := range badLists() {
		out = append(out, bad.x)
	}
	for _, n := range strange() {
		for _, m := range strange() {
			out = append(out, permits(pc(), permit("a", "x", "g", "k", n, m), permit("b", "y", "k", "", 0, n), permit("c", "x", "g", "", m, 100000)))
		}
	}
	return out
}

// strangeSeasons likewise returns seasons.
func strangeSeasons() [][]safety.Season {
	out := [][]safety.Season{nil, one(), manySeasons(8)}
	for _, bad := range badSeasons() {
		out = append(out, bad.x)
	}
	for _, n := range strange() {
		out = append(out, seasons(season(0, 20, n), season(n, 100000, 1)), seasons(season(0, n, 1)))
	}
	return out
}

// strangeCases likewise returns cases.
func strangeCases() []safety.Case {
	out := []safety.Case{{}, example(), second(), ways(), past(), fullCase(), {Claims: make([]safety.Claim, 1)}, {Evidence: make([]safety.Evidence, 1)}, {Versions: make([]safety.Version, 1)}}
	for _, bad := range badCases() {
		out = append(out, *bad.x)
	}
	for _, n := range strange() {
		out = append(out, changed(func(c *safety.Case) { c.Versions[0].Number = n }), changed(func(c *safety.Case) { c.Evidence[1].With[0].Number = n }))
	}
	return out
}

func TestNoFunctionPanics(t *testing.T) {
	calls := 0
	check := func(what string, call func()) {
		defer func() {
			if x := recover(); x != nil {
				t.Errorf("%s: panic %v", what, x)
			}
		}()
		calls++
		call()
	}
	for _, l := range strangePermits() {
		for i, n := range strange() {
			p := permit("p", "x", "g", "k", n, n/2+20)
			check("the functions of permits", func() { permitCalls(l, one(), p, n) })
			check("the functions of permits", func() { permitCalls(l, strangeSeasons()[i], pc(), n) })
			check("the functions of permits", func() { permitCalls(l, nil, safety.Permit{}, n) })
			check("CheckPermits", func() { safety.CheckPermits(l) })
			for _, q := range l[:min(len(l), 3)] {
				check("Exclude", func() { safety.Exclude(p, q); safety.Exclude(q, p); safety.Exclude(pa(), q) })
			}
		}
	}
	for _, s := range strangeSeasons() {
		for _, bad := range badPermits() {
			check("the functions of permits", func() { permitCalls(permits(pa(), pb()), s, *bad.x, 0) })
		}
		check("the functions of permits", func() { permitCalls(permits(pa(), pb()), s, pc(), 0) })
		check("CheckSeasons", func() { safety.CheckSeasons(s) })
	}
	for _, c := range strangeCases() {
		for _, name := range []string{"", "top", "e1", "model", "gate", "e2", "\x00"} {
			lists := [][]string{nil, names("e1 e3"), {"", ""}, {name, name}, series("e", 300)}
			for i, n := range strange() {
				check("the functions of cases", func() { caseCalls(c, name, n, lists[i%len(lists)]) })
			}
		}
	}
	checkTexts(check)
	if calls < 10000 {
		t.Errorf("only %d calls", calls)
	}
}

// checkTexts parses texts of random bytes.
func checkTexts(check func(what string, call func())) {
	r := rand.New(rand.NewSource(431))
	for range 4000 {
		text := []byte(exampleText)
		text[r.Intn(len(text))] = byte(r.Intn(256))
		from := r.Intn(len(text))
		check("Parse", func() { safety.Parse(string(text)) })
		check("Parse", func() { safety.Parse(string(text[from:])) })
	}
}

// used is arguments of all functions.
type used struct {
	Permits []safety.Permit
	Seasons []safety.Season
	Permit  safety.Permit
	Case    safety.Case
	List    []string
}

func fresh() used {
	return used{Permits: permits(pa(), pb(), pc()), Seasons: one(), Permit: permit("d", "z", "north", "k", 15, 19), Case: example(), List: names("e1 e3")}
}

// results returns what all functions say of arguments.
func (x used) results() []any {
	reason, _ := safety.Exclude(x.Permits[0], x.Permits[1])
	clashes, _ := safety.Clashes(x.Permits)
	out, _ := safety.Out(x.Permits, 16)
	locked, _ := safety.Locked(x.Permits, 16)
	tick, most, _ := safety.Busiest(x.Permits)
	issued := safety.Issue(x.Permits, x.Seasons, x.Permit)
	valid := safety.Valid(x.Permits, x.Seasons)
	earliest, _ := safety.Earliest(x.Permits, x.Seasons, x.Permit)
	freshOnes, _ := safety.Fresh(x.Case)
	holds, _ := safety.Holds(x.Case, "top")
	other, _ := safety.Change(x.Case, "model", 3)
	open, _ := safety.Open(other)
	reopened, _ := safety.Reopened(x.Case, "model", 3)
	support, _ := safety.Support(x.Case, "top")
	checked := safety.CheckSupport(x.Case, "top", x.List)
	needed, _ := safety.Needed(x.Case, "top")
	lacks, _ := safety.Lacks(other, "top")
	renewed, _ := safety.Renew(x.Case, "e2")
	text, _ := safety.Print(x.Case)
	ok := []api.Errno{safety.CheckPermit(x.Permit), safety.CheckPermits(x.Permits), safety.CheckSeasons(x.Seasons), safety.CheckCase(x.Case)}
	return []any{reason, clashes, out, locked, tick, most, issued, valid, earliest, freshOnes, holds, other, open, reopened, support, checked, needed, lacks, renewed, text, ok}
}

// fill overwrites everything in a list, and in what it has room for.
func fill[T any](l []T, x T) {
	l = l[:cap(l)]
	for i := range l {
		l[i] = x
	}
}

// spoil overwrites an argument or a result.
func spoil(what any) {
	switch l := what.(type) {
	case []string:
		fill(l, "spoilt")
	case safety.Permit:
		spoil(l.Locks)
	case []safety.Permit:
		for _, p := range l {
			spoil(p)
		}
		fill(l, permit("spoilt", "spoilt", "spoilt", "spoilt", 77, 78))
	case []safety.Season:
		fill(l, season(77, 78, 77))
	case []safety.Clash:
		fill(l, clash(77, 77, "spoilt"))
	case []safety.Version:
		fill(l, version("spoilt", 77))
	case safety.Case:
		for _, x := range l.Evidence {
			spoil(x.With)
		}
		for _, x := range l.Claims {
			spoil(x.Uses)
		}
		spoil(l.Versions)
		fill(l.Evidence, evidence("spoilt"))
		fill(l.Claims, all("spoilt", ""))
	}
}

// spoil overwrites all arguments.
func (x used) spoil() {
	for _, argument := range []any{x.Permits, x.Seasons, x.Permit, x.Case, x.List} {
		spoil(argument)
	}
}

func TestResultsShareNoMemoryWithArguments(t *testing.T) {
	x := fresh()
	results := x.results()
	want(t, "the arguments", x, fresh())
	e2 := changed(func(c *safety.Case) { c.Evidence[1].With[1].Number = 2 })
	want(t, "the results", results, []any{
		"lock", []safety.Clash{clash(0, 1, "lock")}, names("north south"), names("brake north"), 15, 2, api.ErrLock, api.ErrLock, 25, names("e1 e3"), true, second(), names("safe top"), names("safe top"), names("e1 e3"), api.OK, names("e1 e3"), names("e1"), e2, exampleText, make([]api.Errno, 4),
	})
	before := fmt.Sprintf("%+v", results)
	x.spoil()
	want(t, "the results behind spoilt arguments", fmt.Sprintf("%+v", results), before)
	x = fresh()
	for _, result := range x.results() {
		spoil(result)
	}
	want(t, "the arguments behind spoilt results", x, fresh())
	want(t, "the results of a second call", fmt.Sprintf("%+v", x.results()), before)
}

// Arguments with room behind their elements are not written to.
func TestArgumentsHaveRoom(t *testing.T) {
	x := fresh()
	x.Permits, x.Seasons = slices.Grow(x.Permits, 9), slices.Grow(x.Seasons, 9)
	x.Case.Versions, x.Case.Evidence, x.Case.Claims = slices.Grow(x.Case.Versions, 9), slices.Grow(x.Case.Evidence, 9), slices.Grow(x.Case.Claims, 9)
	roomy := append(make([]string, 0, 9), x.Permit.Locks...)
	x.Permit.Locks = roomy
	x.results()
	want(t, "the room behind locks", roomy[len(roomy):cap(roomy)], make([]string, cap(roomy)-len(roomy)))
	want(t, "the room behind permits", x.Permits[3:cap(x.Permits)], make([]safety.Permit, cap(x.Permits)-3))
	want(t, "the room behind evidence", x.Case.Evidence[3:cap(x.Case.Evidence)], make([]safety.Evidence, cap(x.Case.Evidence)-3))
}

// What is spoilt in one piece of evidence or one claim of a case does not show in the others.
func TestPartsOfCasesShareNoMemory(t *testing.T) {
	parsed, _, _ := safety.Parse(exampleText)
	changedCase, _ := safety.Change(example(), "model", 2)
	renewed, _ := safety.Renew(example(), "e1")
	for _, c := range []safety.Case{parsed, changedCase, renewed} {
		want(t, "the case", c, example())
		for i := range c.Evidence {
			before := fmt.Sprint(c.Versions, c.Evidence[i+1:], c.Claims)
			spoil(c.Evidence[i].With)
			want(t, "the case behind spoilt evidence", fmt.Sprint(c.Versions, c.Evidence[i+1:], c.Claims), before)
		}
		for i := range c.Claims {
			before := fmt.Sprint(c.Versions, c.Claims[i+1:])
			spoil(c.Claims[i].Uses)
			want(t, "the case behind a spoilt claim", fmt.Sprint(c.Versions, c.Claims[i+1:]), before)
		}
	}
}
