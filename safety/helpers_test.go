package safety_test

import (
	"fmt"
	"math"
	"math/rand"
	"reflect"
	"slices"
	"strings"
	"testing"

	"tideway/api"
	"tideway/safety"
)

// rounds is the number of random lists of permits, or of random cases, of a test.
const rounds = 300

// horizon is behind the last tick of random permits and seasons.
const horizon = 40

// want compares what results print as: so nil and empty lists are equal.
func want(t *testing.T, what string, got, wanted any) {
	t.Helper()
	if g, w := fmt.Sprintf("%+v", got), fmt.Sprintf("%+v", wanted); g != w {
		t.Errorf("%s: got %s, want %s", what, g, w)
	}
}

// wantError reports an error that is not the wanted one, and a result beside an error that is not zero.
func wantError(t *testing.T, what string, got any, e, wanted api.Errno) {
	t.Helper()
	want(t, "error of "+what, e, wanted)
	if e != api.OK {
		want(t, what+" beside an error", got, reflect.Zero(reflect.TypeOf(got)).Interface())
	}
}

// names returns the words of a string.
func names(s string) []string {
	return strings.Fields(s)
}

func span(from, to int) api.Span {
	return api.Span{From: from, To: to}
}

// permit returns a permit; the things that it locks are words.
func permit(name, crew, gate, locks string, from, to int) safety.Permit {
	return safety.Permit{Name: name, Crew: crew, Gate: gate, Locks: names(locks), Span: span(from, to)}
}

func permits(l ...safety.Permit) []safety.Permit {
	return l
}

func season(from, to, gates int) safety.Season {
	return safety.Season{Span: span(from, to), Gates: gates}
}

func seasons(l ...safety.Season) []safety.Season {
	return l
}

func version(thing string, number int) safety.Version {
	return safety.Version{Thing: thing, Number: number}
}

func evidence(name string, with ...safety.Version) safety.Evidence {
	return safety.Evidence{Name: name, With: with}
}

// all returns a claim that rests on all words of a string, some one that rests on any one of them.
func all(name, uses string) safety.Claim {
	return safety.Claim{Name: name, Uses: names(uses)}
}

func some(name, uses string) safety.Claim {
	return safety.Claim{Name: name, Any: true, Uses: names(uses)}
}

// The permits A, B and C of the chapter's examples.
func pa() safety.Permit { return permit("a", "x", "north", "brake", 10, 20) }
func pb() safety.Permit { return permit("b", "y", "south", "brake north", 15, 25) }
func pc() safety.Permit { return permit("c", "y", "south", "", 30, 40) }

// example is the case of the chapter's examples.
func example() safety.Case {
	return safety.Case{
		Versions: []safety.Version{version("model", 2), version("gate", 1)},
		Evidence: []safety.Evidence{evidence("e1", version("model", 2)), evidence("e2", version("gate", 1), version("model", 1)), evidence("e3")},
		Claims:   []safety.Claim{all("safe", "e1 e3"), some("shut", "e2 e3"), all("top", "safe shut")},
	}
}

// changed is the example after a change.
func changed(f func(c *safety.Case)) safety.Case {
	c := example()
	f(&c)
	return c
}

// withLocks is A with so many locks.
func withLocks(n int) safety.Permit {
	p := pa()
	p.Locks = series("k", n)
	return p
}

// series returns so many names that begin as a string, ascending.
func series(begin string, n int) []string {
	var out []string
	for i := range n {
		out = append(out, fmt.Sprintf("%s%03d", begin, i))
	}
	return out
}

// crowd is so many permits for the same ticks that do not exclude each other, at as many gates as they say.
func crowd(n, gates int) []safety.Permit {
	var out []safety.Permit
	for i, name := range series("p", n) {
		out = append(out, permit(name, "crew"+name, fmt.Sprint("gate", i%gates), "", 10, 20))
	}
	return out
}

// manySeasons is so many seasons, one behind the other.
func manySeasons(n int) []safety.Season {
	var out []safety.Season
	for i := range n {
		out = append(out, season(10*i, 10*i+10, i))
	}
	return out
}

// fullCase is a case with as many versions, pieces of evidence and claims as there may be.
func fullCase() safety.Case {
	var c safety.Case
	for _, thing := range series("t", safety.MaxVersions) {
		c.Versions = append(c.Versions, version(thing, 999))
	}
	for _, name := range series("e", safety.MaxEvidence) {
		c.Evidence = append(c.Evidence, safety.Evidence{Name: name, With: slices.Clone(c.Versions[:safety.MaxUses])})
	}
	for _, name := range series("c", safety.MaxClaims) {
		c.Claims = append(c.Claims, safety.Claim{Name: name, Uses: series("e", safety.MaxUses)})
	}
	return c
}

// outside returns numbers that are not from low to high.
func outside(low, high int) []int {
	return []int{math.MinInt, low - 1, high + 1, math.MaxInt}
}

var badNames = []string{"", "9", "a b", "_a", "é", "A-", "a\n", strings.Repeat("a", 25)}

var badSpans = []api.Span{{}, span(5, 5), span(6, 5), span(-1, 5), span(5, 100001), span(100000, 100001), span(math.MinInt, math.MaxInt), span(math.MaxInt, math.MinInt)}

// bad is a permit, seasons or a case with the first error.
type bad[T any] struct {
	x T
	e api.Errno
}

// defect is a change behind which there is an error.
type defect[T any] struct {
	e api.Errno
	f func(x T)
}

// inOrder returns what is made with each defect, and with each two of them: the first one decides.
func inOrder[T any](of func(f func(x T)) T, l ...defect[T]) []bad[T] {
	var out []bad[T]
	for i, a := range l {
		out = append(out, bad[T]{of(a.f), a.e})
		for _, b := range l[i+1:] {
			out = append(out, bad[T]{of(func(x T) { b.f(x); a.f(x) }), a.e})
		}
	}
	return out
}

// badPermits returns permits that are wrong by themselves.
func badPermits() []bad[*safety.Permit] {
	of := func(f func(p *safety.Permit)) *safety.Permit {
		p := pb()
		f(&p)
		return &p
	}
	var out []bad[*safety.Permit]
	add := func(e api.Errno, f func(p *safety.Permit)) {
		out = append(out, bad[*safety.Permit]{of(f), e})
	}
	for _, name := range badNames {
		add(api.ErrName, func(p *safety.Permit) { p.Name = name })
		add(api.ErrName, func(p *safety.Permit) { p.Crew = name })
		add(api.ErrName, func(p *safety.Permit) { p.Gate = name })
		add(api.ErrName, func(p *safety.Permit) { p.Locks[0] = name })
		add(api.ErrName, func(p *safety.Permit) { p.Locks[1] = name })
	}
	for _, s := range badSpans {
		add(api.ErrSpan, func(p *safety.Permit) { p.Span = s })
	}
	add(api.ErrMany, func(p *safety.Permit) { p.Locks = series("k", 9) })
	add(api.ErrMany, func(p *safety.Permit) { p.Locks = make([]string, 3000) })
	add(api.ErrName, func(p *safety.Permit) { p.Locks = make([]string, 8) })
	add(api.ErrOrder, func(p *safety.Permit) { p.Locks = names("b b") })
	add(api.ErrOrder, func(p *safety.Permit) { p.Locks = names("b a") })
	add(api.ErrOrder, func(p *safety.Permit) { p.Locks = names("a B") })
	add(api.ErrOrder, func(p *safety.Permit) { p.Locks = names("a c d b e") })
	// Locks are examined one by one.
	add(api.ErrOrder, func(p *safety.Permit) { p.Locks = names("b a 9") })
	add(api.ErrName, func(p *safety.Permit) { p.Locks = names("b 9 a") })
	return append(out, inOrder(of,
		defect[*safety.Permit]{api.ErrName, func(p *safety.Permit) { p.Gate = "" }},
		defect[*safety.Permit]{api.ErrMany, func(p *safety.Permit) { p.Locks = append(p.Locks, series("k", 9)...) }},
		defect[*safety.Permit]{api.ErrOrder, func(p *safety.Permit) { p.Locks[1] = "A" }},
		defect[*safety.Permit]{api.ErrSpan, func(p *safety.Permit) { p.Span.To = 0 }},
	)...)
}

// badLists returns lists of permits.
func badLists() []bad[[]safety.Permit] {
	many := crowd(65, 3)
	many[0].Name = ""
	out := []bad[[]safety.Permit]{{crowd(65, 3), api.ErrMany}, {many, api.ErrMany}, {make([]safety.Permit, 65), api.ErrMany}, {make([]safety.Permit, 3000), api.ErrMany}, {make([]safety.Permit, 64), api.ErrName}}
	for _, bad1 := range badPermits() {
		out = append(out, bad[[]safety.Permit]{permits(*bad1.x), bad1.e}, bad[[]safety.Permit]{permits(pa(), pc(), *bad1.x), bad1.e})
	}
	// The first permit with an error decides.
	long, early := withLocks(9), permit("a", "x", "g", "", -1, 5)
	out = append(out, bad[[]safety.Permit]{permits(pa(), early, long), api.ErrSpan}, bad[[]safety.Permit]{permits(pa(), long, early), api.ErrMany})
	return out
}

func badSeasons() []bad[[]safety.Season] {
	out := []bad[[]safety.Season]{{manySeasons(9), api.ErrMany}, {make([]safety.Season, 9), api.ErrMany}, {make([]safety.Season, 8), api.ErrSpan}, {make([]safety.Season, 3000), api.ErrMany}}
	add := func(e api.Errno, l ...safety.Season) {
		out = append(out, bad[[]safety.Season]{l, e})
	}
	for _, s := range badSpans {
		add(api.ErrSpan, safety.Season{Span: s, Gates: 17})
		add(api.ErrSpan, season(0, 1, 0), season(1, 9, 16), safety.Season{Span: s})
	}
	for _, n := range outside(0, 16) {
		add(api.ErrRange, season(0, 1, n))
		add(api.ErrRange, season(5, 9, 0), season(0, 1, n))
	}
	add(api.ErrOrder, season(5, 9, 1), season(0, 5, 1))
	add(api.ErrOrder, season(5, 9, 1), season(8, 10, 1))
	add(api.ErrOrder, season(5, 9, 1), season(5, 9, 1))
	add(api.ErrOrder, season(5, 9, 1), season(0, 100, 1))
	add(api.ErrOrder, season(5, 9, 1), season(20, 30, 1), season(9, 10, 1))
	// The first season with an error decides.
	add(api.ErrOrder, season(5, 9, 1), season(8, 10, 1), season(20, 20, 17))
	add(api.ErrRange, season(5, 9, 1), season(9, 10, -1), season(8, 9, 1))
	return out
}

// exampleWith returns the example after a change.
func exampleWith(f func(c *safety.Case)) *safety.Case {
	c := changed(f)
	return &c
}

// filled appends elements to a list until it has so many.
func filled[T any](l []T, n int, element func(i int) T) []T {
	for i := len(l); i < n; i++ {
		l = append(l, element(i))
	}
	return l
}

func badVersions() []bad[*safety.Case] {
	var out []bad[*safety.Case]
	add := func(e api.Errno, f func(c *safety.Case)) {
		out = append(out, bad[*safety.Case]{exampleWith(f), e})
	}
	for i := range 2 {
		for _, name := range badNames {
			add(api.ErrName, func(c *safety.Case) { c.Versions[i] = version(name, -1) })
		}
		for _, n := range outside(0, 999) {
			add(api.ErrRange, func(c *safety.Case) { c.Versions[i].Number = n })
		}
	}
	add(api.ErrRange, func(c *safety.Case) { c.Versions[1] = version("model", 1000) })
	add(api.ErrTwice, func(c *safety.Case) { c.Versions[1] = version("model", 2) })
	add(api.ErrTwice, func(c *safety.Case) { c.Versions = append(c.Versions, version("model", 3)) })
	add(api.ErrMany, func(c *safety.Case) { c.Versions = make([]safety.Version, 65) })
	add(api.ErrName, func(c *safety.Case) { c.Versions = make([]safety.Version, 64) })
	add(api.ErrMany, func(c *safety.Case) { c.Versions = make([]safety.Version, 3000) })
	return out
}

func badEvidence() []bad[*safety.Case] {
	var out []bad[*safety.Case]
	add := func(e api.Errno, f func(c *safety.Case)) {
		out = append(out, bad[*safety.Case]{exampleWith(f), e})
	}
	for i := range 3 {
		for _, name := range badNames {
			add(api.ErrName, func(c *safety.Case) { c.Evidence[i] = evidence(name, version("", -1)) })
		}
		for _, thing := range []string{"", "models", "e1", "safe", "9"} {
			add(api.ErrUnknown, func(c *safety.Case) { c.Evidence[i].With = []safety.Version{version(thing, -1)} })
			add(api.ErrUnknown, func(c *safety.Case) { c.Evidence[i].With = []safety.Version{version("gate", 0), version(thing, 1)} })
		}
		for _, n := range outside(0, 999) {
			add(api.ErrRange, func(c *safety.Case) { c.Evidence[i].With = []safety.Version{version("gate", n)} })
			add(api.ErrRange, func(c *safety.Case) {
				c.Evidence[i].With = []safety.Version{version("gate", 0), version("gate", n)}
			})
		}
		add(api.ErrTwice, func(c *safety.Case) {
			c.Evidence[i].With = []safety.Version{version("gate", 0), version("model", 0), version("gate", 1)}
		})
		add(api.ErrMany, func(c *safety.Case) { c.Evidence[i].With = make([]safety.Version, 17) })
		add(api.ErrUnknown, func(c *safety.Case) { c.Evidence[i].With = make([]safety.Version, 16) })
		// The versions of evidence are examined one by one.
		add(api.ErrRange, func(c *safety.Case) {
			c.Evidence[i].With = []safety.Version{version("gate", -1), version("x", 1), version("gate", 0)}
		})
		add(api.ErrTwice, func(c *safety.Case) {
			c.Evidence[i].With = []safety.Version{version("gate", 1), version("gate", 1), version("x", 1)}
		})
	}
	add(api.ErrTwice, func(c *safety.Case) { c.Evidence[1].Name = "e1" })
	add(api.ErrTwice, func(c *safety.Case) { c.Evidence[2] = evidence("e1", make([]safety.Version, 17)...) })
	add(api.ErrMany, func(c *safety.Case) { c.Evidence = make([]safety.Evidence, 65) })
	add(api.ErrName, func(c *safety.Case) { c.Evidence = make([]safety.Evidence, 64) })
	add(api.ErrMany, func(c *safety.Case) { c.Evidence = make([]safety.Evidence, 3000) })
	return out
}

func badClaims() []bad[*safety.Case] {
	var out []bad[*safety.Case]
	add := func(e api.Errno, f func(c *safety.Case)) {
		out = append(out, bad[*safety.Case]{exampleWith(f), e})
	}
	for i := range 3 {
		for _, name := range badNames {
			add(api.ErrName, func(c *safety.Case) { c.Claims[i] = all(name, "") })
		}
		for _, name := range names("e1 e2 e3") {
			add(api.ErrTwice, func(c *safety.Case) { c.Claims[i] = all(name, "") })
		}
		add(api.ErrEmpty, func(c *safety.Case) { c.Claims[i].Uses = nil })
		add(api.ErrEmpty, func(c *safety.Case) { c.Claims[i] = some("x", "") })
		add(api.ErrMany, func(c *safety.Case) { c.Claims[i].Uses = make([]string, 17) })
		add(api.ErrUnknown, func(c *safety.Case) { c.Claims[i].Uses = make([]string, 16) })
		for _, uses := range []string{"x", "e1 x", "model", "e1 gate", "top", "e1 e2 top e1", "9", "x x", "x e1 e1"} {
			add(api.ErrUnknown, func(c *safety.Case) { c.Claims[i].Uses = names(uses) })
		}
		add(api.ErrUnknown, func(c *safety.Case) { c.Claims[i].Uses = []string{c.Claims[i].Name} })
		for _, uses := range []string{"e1 e1", "e1 e2 e1", "e1 e1 x"} {
			add(api.ErrTwice, func(c *safety.Case) { c.Claims[i].Uses = names(uses) })
		}
	}
	add(api.ErrTwice, func(c *safety.Case) { c.Claims[1] = all("safe", "") })
	add(api.ErrTwice, func(c *safety.Case) { c.Claims[2].Name = "safe" })
	add(api.ErrTwice, func(c *safety.Case) { c.Claims[2].Uses = names("shut e1 shut x") })
	add(api.ErrMany, func(c *safety.Case) { c.Claims = make([]safety.Claim, 65) })
	add(api.ErrName, func(c *safety.Case) { c.Claims = make([]safety.Claim, 64) })
	add(api.ErrMany, func(c *safety.Case) { c.Claims = make([]safety.Claim, 3000) })
	return out
}

// badCases returns cases, some of them with two errors.
func badCases() []bad[*safety.Case] {
	type d = defect[*safety.Case]
	return slices.Concat(badVersions(), badEvidence(), badClaims(), inOrder(exampleWith,
		d{api.ErrMany, func(c *safety.Case) {
			c.Versions = filled(c.Versions, 65, func(i int) safety.Version { return version(fmt.Sprint("t", i), 1) })
		}},
		d{api.ErrRange, func(c *safety.Case) { c.Versions[0].Number = 1000 }},
		d{api.ErrTwice, func(c *safety.Case) { c.Versions[1].Thing = "model" }},
		d{api.ErrMany, func(c *safety.Case) {
			c.Evidence = filled(c.Evidence, 65, func(i int) safety.Evidence { return evidence(fmt.Sprint("f", i)) })
		}},
		d{api.ErrName, func(c *safety.Case) { c.Evidence[0].Name = "" }},
		d{api.ErrRange, func(c *safety.Case) { c.Evidence[0].With[0].Number = -1 }},
		d{api.ErrTwice, func(c *safety.Case) { c.Evidence[1].Name = c.Evidence[0].Name }},
		d{api.ErrMany, func(c *safety.Case) {
			c.Evidence[1].With = filled(c.Evidence[1].With, 17, func(int) safety.Version { return version("x", -1) })
		}},
		d{api.ErrUnknown, func(c *safety.Case) { c.Evidence[1].With[1].Thing = "" }},
		d{api.ErrMany, func(c *safety.Case) {
			c.Claims = filled(c.Claims, 65, func(i int) safety.Claim { return all(fmt.Sprint("c", i), "e1") })
		}},
		d{api.ErrUnknown, func(c *safety.Case) { c.Claims[0].Uses[1] = "top" }},
		d{api.ErrName, func(c *safety.Case) { c.Claims[1].Name = "" }},
		d{api.ErrMany, func(c *safety.Case) {
			c.Claims[1].Uses = filled(c.Claims[1].Uses, 17, func(int) string { return "e1" })
		}},
		d{api.ErrTwice, func(c *safety.Case) { c.Claims[1].Uses[1] = "e2" }},
		d{api.ErrTwice, func(c *safety.Case) { c.Claims[2].Name = "e3" }},
		d{api.ErrEmpty, func(c *safety.Case) { c.Claims[2].Uses = nil }},
	))
}

// randomPermit returns a permit of few crews at few gates, with few things to lock, before the horizon.
func randomPermit(r *rand.Rand, name string) safety.Permit {
	from := r.Intn(horizon - 10)
	p := permit(name, fmt.Sprint("crew", r.Intn(8)), fmt.Sprint("g", r.Intn(4)), "", from, from+1+r.Intn(10))
	for _, thing := range names("g0 g1 g2 g3 k0 k1 k2 k3 k4") {
		if r.Intn(9) == 0 && len(p.Locks) < safety.MaxLocks {
			p.Locks = append(p.Locks, thing)
		}
	}
	return p
}

// randomPermits returns permits, so many at most; some of them have the same name.
func randomPermits(r *rand.Rand, most int) []safety.Permit {
	var out []safety.Permit
	for range r.Intn(most + 1) {
		out = append(out, randomPermit(r, fmt.Sprint("p", r.Intn(3*most))))
	}
	return out
}

// randomSeasons returns seasons, most of which permit some gates.
func randomSeasons(r *rand.Rand) []safety.Season {
	var out []safety.Season
	for from := r.Intn(10); from < horizon; {
		to := from + 1 + r.Intn(20)
		out = append(out, season(from, to, r.Intn(5)))
		from = to + r.Intn(2)*r.Intn(4)
	}
	return out[:min(len(out), safety.MaxSeasons)]
}

// validPermits returns permits that are valid.
func validPermits(r *rand.Rand, l []safety.Season, tries int) []safety.Permit {
	var out []safety.Permit
	for i := range tries {
		if p := randomPermit(r, fmt.Sprint("p", i)); safety.Issue(out, l, p) == api.OK {
			out = append(out, p)
		}
	}
	return out
}

// randomCase returns a case with a few things, pieces of evidence and claims.
func randomCase(r *rand.Rand) safety.Case {
	var c safety.Case
	var usable []string
	for i := range 1 + r.Intn(4) {
		c.Versions = append(c.Versions, version(fmt.Sprint("t", i), r.Intn(3)))
	}
	for i := range r.Intn(9) {
		x := evidence(fmt.Sprint("e", i))
		for _, thing := range r.Perm(len(c.Versions))[:r.Intn(min(len(c.Versions), 2)+1)] {
			v := c.Versions[thing]
			if r.Intn(3) == 0 {
				v.Number = r.Intn(3)
			}
			x.With = append(x.With, v)
		}
		c.Evidence = append(c.Evidence, x)
		usable = append(usable, x.Name)
	}
	if len(usable) == 0 {
		return c
	}
	for i := range r.Intn(7) {
		x := safety.Claim{Name: fmt.Sprint("c", i), Any: r.Intn(2) == 0}
		for _, n := range r.Perm(len(usable))[:1+r.Intn(min(len(usable), 4))] {
			x.Uses = append(x.Uses, usable[n])
		}
		c.Claims = append(c.Claims, x)
		usable = append(usable, x.Name)
	}
	return c
}

// The functions below compute by the definitions of the chapter, in other ways than the program.

// works reports whether a permit has a tick.
func works(p safety.Permit, tick int) bool {
	return tick >= p.Span.From && tick < p.Span.To
}

// workTogether reports whether two permits have a tick in common, tick by tick.
func workTogether(a, b safety.Permit) bool {
	for tick := a.Span.From; tick < a.Span.To; tick++ {
		if works(b, tick) {
			return true
		}
	}
	return false
}

// exclude returns why two permits exclude each other.
func exclude(a, b safety.Permit) string {
	switch {
	case a.Name == b.Name:
		return "name"
	case !workTogether(a, b):
		return ""
	case a.Crew == b.Crew:
		return "crew"
	}
	for _, thing := range a.Locks {
		if slices.Contains(b.Locks, thing) {
			return "lock"
		}
	}
	if slices.Contains(a.Locks, b.Gate) || slices.Contains(b.Locks, a.Gate) {
		return "gate"
	}
	return ""
}

// outAt and lockedAt return the gates and the things at a tick, each one once.
func outAt(l []safety.Permit, tick int) []string {
	var out []string
	for _, p := range l {
		if works(p, tick) && !slices.Contains(out, p.Gate) {
			out = append(out, p.Gate)
		}
	}
	slices.Sort(out)
	return out
}

func lockedAt(l []safety.Permit, tick int) []string {
	var out []string
	for _, p := range l {
		for _, thing := range p.Locks {
			if works(p, tick) && !slices.Contains(out, thing) {
				out = append(out, thing)
			}
		}
	}
	slices.Sort(out)
	return out
}

// permitted returns how many gates may be out of service at a tick.
func permitted(l []safety.Season, tick int) int {
	for _, s := range l {
		if tick >= s.Span.From && tick < s.Span.To {
			return s.Gates
		}
	}
	return 0
}

// issue returns the error with which a permit is not issued besides others, tick by tick.
func issue(l []safety.Permit, s []safety.Season, p safety.Permit) api.Errno {
	for _, other := range l {
		switch exclude(p, other) {
		case "name":
			return api.ErrTwice
		case "crew":
			return api.ErrOverlap
		case "lock", "gate":
			return api.ErrLock
		}
	}
	together := append(slices.Clone(l), p)
	for tick := p.Span.From; tick < p.Span.To; tick++ {
		if len(outAt(together, tick)) > permitted(s, tick) {
			return api.ErrOver
		}
	}
	return api.OK
}

// isPresent reports whether evidence was found with the present versions.
func isPresent(c safety.Case, x safety.Evidence) bool {
	for _, v := range x.With {
		for _, present := range c.Versions {
			if present.Thing == v.Thing && present.Number != v.Number {
				return false
			}
		}
	}
	return true
}

// partition returns the names of the evidence that is valid, and of the evidence that is not.
func partition(c safety.Case) ([]string, []string) {
	var valid, invalid []string
	for _, x := range c.Evidence {
		if isPresent(c, x) {
			valid = append(valid, x.Name)
		} else {
			invalid = append(invalid, x.Name)
		}
	}
	return valid, invalid
}

// holdsBy reports whether a claim, or evidence, holds by some evidence: it asks what the claim uses.
func holdsBy(c safety.Case, name string, by []string) bool {
	i := slices.IndexFunc(c.Claims, func(x safety.Claim) bool { return x.Name == name })
	if i < 0 {
		return slices.Contains(by, name)
	}
	holding := 0
	for _, used := range c.Claims[i].Uses {
		if holdsBy(c, used, by) {
			holding++
		}
	}
	return holding == len(c.Claims[i].Uses) || c.Claims[i].Any && holding > 0
}

// subset returns the names whose bits are set.
func subset(l []string, bits int) []string {
	var out []string
	for i, name := range l {
		if bits>>i&1 == 1 {
			out = append(out, name)
		}
	}
	return out
}

// leastOf returns the first of the subsets of names, in which later names weigh more than all earlier ones, that is enough.
func leastOf(l []string, isEnough func(l []string) bool) []string {
	for bits := range 1 << len(l) {
		if isEnough(subset(l, bits)) {
			return subset(l, bits)
		}
	}
	return nil
}

// claimNames returns the names of the claims.
func claimNames(c safety.Case) []string {
	var out []string
	for _, x := range c.Claims {
		out = append(out, x.Name)
	}
	return out
}

// openClaims returns the claims that do not hold.
func openClaims(c safety.Case) []string {
	valid, _ := partition(c)
	return slices.DeleteFunc(claimNames(c), func(name string) bool { return holdsBy(c, name, valid) })
}
