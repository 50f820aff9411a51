package policy_test

import (
	"fmt"
	"math"
	"math/rand"
	"slices"
	"testing"

	"tideway/api"
	"tideway/policy"
)

// P1 of DOC.md, and its rules about memory.

// strangeSeasons returns seasons with everything that they may not be, and some that have no error.
func strangeSeasons() []policy.Season {
	out := []policy.Season{ss(), most(), mixed(), single(0, list(0), list(0))}
	for _, bad := range badSeasons() {
		out = append(out, bad.s)
	}
	for _, n := range []int{math.MinInt, -1, 0, 1, math.MaxInt} {
		for _, l := range [][]int{nil, {n}, {n, n}, slices.Repeat(list(n), 7)} {
			out = append(out, policy.Season{Limit: n, Ships: l, Members: []policy.Member{member("a", n, l, l, l)}}, with(2, func(m *policy.Member) { *m = member("x", 1, l, l, l) }))
		}
	}
	return out
}

// strangePolicies returns policies with everything that they may not be, and one for S.
func strangePolicies() []policy.Policy {
	out := []policy.Policy{{}, sp(true, true, false), long(49, 1), long(48, 6), {Rules: make([]policy.Rule, 6)}}
	for _, n := range []int{math.MinInt, -1, 0, 10, math.MaxInt} {
		out = append(out, ruled([][]int{{n}}, true), ruled([][]int{{0}, {0, n}, slices.Repeat(list(n), 7)}, true, true, true))
	}
	return out
}

func TestNoFunctionPanics(t *testing.T) {
	calls := 0
	check := func(what string, call func()) {
		defer func() {
			if x := recover(); x != nil {
				t.Errorf("%s: panic %v", what, x)
			}
		}()
		calls++
		call()
	}
	for _, s := range strangeSeasons() {
		for _, n := range []int{math.MinInt, -1, 0, 1, 2, 3, 8, 8001, math.MaxInt} {
			checkMember(check, s, n)
		}
		for _, p := range strangePolicies() {
			checkPolicy(check, s, p)
		}
	}
	checkTexts(check)
	if calls < 10000 {
		t.Errorf("only %d calls", calls)
	}
}

// checkMember calls all functions without policies with a number as the number of a member, a needed weight, and the rest.
func checkMember(check func(what string, call func()), s policy.Season, n int) {
	check("CheckSeason", func() { policy.CheckSeason(s) })
	check("Histories", func() { policy.Histories(s) })
	check("Always", func() { policy.Always(s, n > 0) })
	for _, tides := range list(0, 1, 2, 6, 7) {
		check("Follow", func() { policy.Follow(s, n, make([]bool, tides)) })
		check("Weight", func() { policy.Weight(s, slices.Repeat(list(n), tides)) })
	}
	check("Alone", func() { policy.Alone(s, n) })
	check("Doomed", func() { policy.Doomed(s, n) })
	check("Most", func() { policy.Most(s) })
	check("Best", func() { policy.Best(s, n) })
	check("Refuse", func() { policy.Refuse(s, n) })
	check("CheckRefusal", func() { policy.CheckRefusal(s, n, nil) })
	check("CheckRefusal", func() { policy.CheckRefusal(s, 5, []policy.Group{group(n, 0), group(2, n, 2)}) })
}

// checkPolicy calls all functions with a policy.
func checkPolicy(check func(what string, call func()), s policy.Season, p policy.Policy) {
	check("CheckPolicy", func() { policy.CheckPolicy(s, p) })
	check("Kept", func() { policy.Kept(s, p) })
	check("Chance", func() { policy.Chance(s, p) })
	check("Closings", func() { policy.Closings(s, p) })
	check("Delay", func() { policy.Delay(s, p) })
	check("Certify", func() { policy.Certify(s, p) })
	check("Regret", func() { policy.Regret(s, p) })
	check("Print", func() { policy.Print(p) })
	for _, n := range []int{math.MinInt, -1, 0, 2, 6, math.MaxInt} {
		check("Flip", func() { policy.Flip(s, p, n) })
		check("Play", func() { policy.Play(s, p, n) })
		check("CheckCertificate", func() { policy.CheckCertificate(s, n, certificate(p)) })
		check("CheckCertificate", func() { policy.CheckCertificate(s, 0, certificate(p, 0, n)) })
	}
}

// checkTexts parses texts of random bytes.
func checkTexts(check func(what string, call func())) {
	r := rand.New(rand.NewSource(111))
	for range 4000 {
		text := []byte(spText)
		text[r.Intn(len(text))] = byte(r.Intn(256))
		from := r.Intn(len(text))
		check("Parse", func() { policy.Parse(string(text)) })
		check("Parse", func() { policy.Parse(string(text[from:])) })
	}
}

// used is arguments of all functions.
type used struct {
	S       policy.Season
	P       policy.Policy
	C       policy.Certificate
	Members []int
	Closed  []bool
	Groups  []policy.Group
}

func fresh() used {
	p := sp(true, true, false)
	return used{S: ss(), P: p, C: certificate(sp(false, true, false), 0, 2), Members: list(0, 2), Closed: []bool{true, false}, Groups: []policy.Group{group(2, 0), group(2, 1, 2)}}
}

// results returns what all functions say of arguments.
func (x used) results() []any {
	histories, _ := policy.Histories(x.S)
	always, _ := policy.Always(x.S, true)
	flipped, _ := policy.Flip(x.S, x.P, 0)
	course, _ := policy.Play(x.S, x.P, 0)
	peaks, _ := policy.Follow(x.S, 0, x.Closed)
	kept, _ := policy.Kept(x.S, x.P)
	weight, _ := policy.Weight(x.S, x.Members)
	chance, _ := policy.Chance(x.S, x.P)
	closings, _ := policy.Closings(x.S, x.P)
	delay, _ := policy.Delay(x.S, x.P)
	alone, _, _ := policy.Alone(x.S, 0)
	doomed, _ := policy.Doomed(x.S, 0)
	most, _ := policy.Most(x.S)
	best, _, _, _ := policy.Best(x.S, 3)
	certificate, _ := policy.Certify(x.S, x.P)
	checked := policy.CheckCertificate(x.S, 3, x.C)
	refusal, _ := policy.Refuse(x.S, 5)
	refused := policy.CheckRefusal(x.S, 5, x.Groups)
	regret, _ := policy.Regret(x.S, x.P)
	text, _ := policy.Print(x.P)
	return []any{histories, always, flipped, course, peaks, kept, weight, chance, closings, delay, alone, doomed, most, best, certificate, checked, refusal, refused, regret, text}
}

// spoil overwrites everything that arguments or results have.
func spoil(x any) {
	switch x := x.(type) {
	case []int:
		for i := range x {
			x[i] = 77
		}
	case [][]int:
		for _, l := range x {
			spoil(l)
		}
	case []bool:
		for i := range x {
			x[i] = !x[i]
		}
	case policy.Policy:
		for i, rule := range x.Rules {
			spoil(rule.Classes)
			x.Rules[i] = policy.Rule{Classes: list(77), Close: !rule.Close}
		}
	case policy.Course:
		spoil(x.Closed)
		spoil(x.Peaks)
	case policy.Certificate:
		spoil(x.Policy)
		spoil(x.Members)
	case []policy.Group:
		for i, g := range x {
			spoil(g.Members)
			x[i] = group(77, 77)
		}
	}
}

// spoil overwrites all arguments.
func (x used) spoil() {
	for _, argument := range []any{x.P, x.C, x.Members, x.Closed, x.Groups, x.S.Ships} {
		spoil(argument)
	}
	for i, m := range x.S.Members {
		for _, l := range [][]int{m.Classes, m.Outside, m.Inflow} {
			spoil(l)
		}
		x.S.Members[i] = member("spoilt", 77, list(77), list(77), list(77))
	}
}

func TestResultsShareNoMemoryWithArguments(t *testing.T) {
	x := fresh()
	results := x.results()
	want(t, "the arguments", x, fresh())
	before := fmt.Sprintf("%+v", results)
	x.spoil()
	want(t, "the results", fmt.Sprintf("%+v", results), before)
	x = fresh()
	for _, result := range x.results() {
		spoil(result)
	}
	want(t, "the arguments behind spoilt results", x, fresh())
	want(t, "the results of a second call", fmt.Sprintf("%+v", x.results()), before)
}

func TestPartsOfResultsShareNoMemory(t *testing.T) {
	histories, _ := policy.Histories(ss())
	spoil(append(histories[0], 77))
	spoil(histories[0])
	want(t, "the other histories", histories[1:], [][]int{{0, 0}, {0, 1}})
	always, _ := policy.Always(ss(), true)
	flipped, _ := policy.Flip(ss(), sp(true, true, false), 0)
	best, _, _, _ := policy.Best(ss(), 3)
	certified, _ := policy.Certify(ss(), sp(true, true, false))
	parsed, _, _ := policy.Parse(spText)
	for _, p := range []policy.Policy{always, flipped, best, certified.Policy, parsed} {
		before := fmt.Sprint(p.Rules[1:])
		spoil(append(p.Rules[0].Classes, 77))
		spoil(p.Rules[0].Classes)
		want(t, "the other rules", fmt.Sprint(p.Rules[1:]), before)
	}
	groups, _ := policy.Refuse(ss(), 5)
	spoil(append(groups[0].Members, 77))
	spoil(groups[0].Members)
	want(t, "the second group", groups[1], group(2, 1, 2))
	want(t, "what is parsed again", fmt.Sprint(policy.Parse(spText)), fmt.Sprint(sp(false, true, false), 0, api.OK))
}
