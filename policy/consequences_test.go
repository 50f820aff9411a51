package policy_test

import (
	"math/rand"
	"slices"
	"testing"

	"tideway/api"
	"tideway/policy"
)

// P5.5, and P6 of DOC.md. Everything here is drawn from generators with fixed seeds.

const rounds = 300

// shared returns at how many tides two members have the same history.
func shared(a, b policy.Member) int {
	n := 0
	for n < len(a.Classes) && a.Classes[n] == b.Classes[n] {
		n++
	}
	return n
}

func TestTheSameHistoryHasTheSameClosings(t *testing.T) {
	r := rand.New(rand.NewSource(101))
	same := 0
	for range rounds {
		s := randomSeason(r, 6, 8, 4)
		p := randomPolicy(r, s)
		for i, a := range s.Members {
			for k, b := range s.Members[:i] {
				n := shared(a, b)
				same += n
				x, _ := policy.Play(s, p, i)
				y, _ := policy.Play(s, p, k)
				want(t, "the closings", x.Closed[:n], y.Closed[:n])
			}
		}
	}
	if same == 0 {
		t.Error("no members have the same history")
	}
}

func TestKeptMembersAreNotDoomed(t *testing.T) {
	r := rand.New(rand.NewSource(102))
	for range rounds {
		s := randomSeason(r, 6, 8, 4)
		kept, e := policy.Kept(s, randomPolicy(r, s))
		want(t, "Kept", e, api.OK)
		for _, i := range kept {
			_, e := policy.Doomed(s, i)
			want(t, "Doomed", e, api.ErrNone)
			_, _, e = policy.Alone(s, i)
			want(t, "Alone", e, api.OK)
		}
	}
}

// weightOf returns the weight that a policy keeps, and its numbers of closings and delay.
func weightOf(t *testing.T, s policy.Season, p policy.Policy) (int, []int) {
	t.Helper()
	kept, e := policy.Kept(s, p)
	weight, wrong := policy.Weight(s, kept)
	closings, _ := policy.Closings(s, p)
	delay, _ := policy.Delay(s, p)
	want(t, "errors", []api.Errno{e, wrong}, []api.Errno{api.OK, api.OK})
	return weight, list(closings, delay)
}

// neighbours returns a policy, and those that differ from it in one rule.
func neighbours(t *testing.T, s policy.Season, p policy.Policy) []policy.Policy {
	t.Helper()
	out := []policy.Policy{p}
	for i := range p.Rules {
		q, e := policy.Flip(s, p, i)
		want(t, "Flip", e, api.OK)
		out = append(out, q)
	}
	return out
}

func TestNoPolicyIsBetterThanTheBestOne(t *testing.T) {
	r := rand.New(rand.NewSource(103))
	for range rounds / 4 {
		s := randomSeason(r, 6, 8, 4)
		greatest, _ := policy.Most(s)
		_, e := policy.Refuse(s, greatest)
		want(t, "Refuse", e, api.ErrNone)
		start, _, _, _ := policy.Best(s, r.Intn(greatest+1))
		for _, p := range slices.Concat(neighbours(t, s, start), neighbours(t, s, randomPolicy(r, s))) {
			weight, numbers := weightOf(t, s, p)
			if weight > greatest {
				t.Errorf("%+v: %+v keeps %d of at most %d", s, p, weight, greatest)
			}
			_, closings, delay, e := policy.Best(s, weight)
			if e != api.OK || slices.Compare(numbers, list(closings, delay)) < 0 {
				t.Errorf("%+v: %+v keeps %d with %v, the best policy with %d, %d", s, p, weight, numbers, closings, delay)
			}
		}
	}
}

func TestALesserNeedIsNoHarder(t *testing.T) {
	r := rand.New(rand.NewSource(104))
	for range rounds {
		s := randomSeason(r, 6, 8, 4)
		greatest, _ := policy.Most(s)
		before := list(0, 0)
		for need := range greatest + 1 {
			_, closings, delay, e := policy.Best(s, need)
			want(t, "Best", []any{e, slices.Compare(before, list(closings, delay)) <= 0}, []any{api.OK, true})
			before = list(closings, delay)
		}
	}
}

func TestFinerClassesKeepNoLess(t *testing.T) {
	r := rand.New(rand.NewSource(105))
	more := 0
	for range rounds {
		fine := randomSeason(r, 6, 8, 10)
		coarse := fine
		coarse.Members = slices.Clone(fine.Members)
		width := 2 + r.Intn(9)
		for i, m := range fine.Members {
			coarse.Members[i].Classes = nil
			for _, class := range m.Classes {
				coarse.Members[i].Classes = append(coarse.Members[i].Classes, class/width)
			}
		}
		less, _ := policy.Most(coarse)
		most, e := policy.Most(fine)
		want(t, "Most", []any{e, most >= less}, []any{api.OK, true})
		more += most - less
		_, closings, delay, e := policy.Best(coarse, less)
		_, fewer, sooner, wrong := policy.Best(fine, less)
		want(t, "Best", []any{e, wrong, slices.Compare(list(fewer, sooner), list(closings, delay)) <= 0}, []any{api.OK, api.OK, true})
	}
	if more == 0 {
		t.Error("finer classes never keep more")
	}
}

func TestAHigherLimitKeepsNoLess(t *testing.T) {
	r := rand.New(rand.NewSource(106))
	more := 0
	for range rounds {
		s := randomSeason(r, 6, 8, 4)
		p := randomPolicy(r, s)
		less, _ := policy.Most(s)
		kept, _ := policy.Kept(s, p)
		s.Limit += 1 + r.Intn(10)
		most, e := policy.Most(s)
		want(t, "Most", []any{e, most >= less}, []any{api.OK, true})
		more += most - less
		still, _ := policy.Kept(s, p)
		for _, i := range kept {
			want(t, "Kept", slices.Contains(still, i), true)
		}
	}
	if more == 0 {
		t.Error("a higher limit never keeps more")
	}
}

// P6 of DOC.md, too.
func TestTheBestPolicyIsCertifiedAndNeverRefused(t *testing.T) {
	r := rand.New(rand.NewSource(107))
	refused := 0
	for range rounds {
		s := randomSeason(r, 6, 8, 4)
		for need := range total(s) + 2 {
			p, _, _, infeasible := policy.Best(s, need)
			groups, none := policy.Refuse(s, need)
			if infeasible == api.OK {
				want(t, "Refuse", none, api.ErrNone)
				wantCertified(t, s, need, p)
			}
			if none == api.OK {
				refused++
				want(t, "Best", infeasible, api.ErrInfeasible)
				want(t, "CheckRefusal", policy.CheckRefusal(s, need, groups), api.OK)
			}
		}
	}
	if refused < rounds {
		t.Errorf("only %d needs are refused", refused)
	}
}

// wantCertified looks whether a policy keeps the members that its certificate counts.
func wantCertified(t *testing.T, s policy.Season, need int, p policy.Policy) {
	t.Helper()
	c, e := policy.Certify(s, p)
	want(t, "Certify", []any{c.Policy, e}, []any{p, api.OK})
	want(t, "CheckCertificate", policy.CheckCertificate(s, need, c), api.OK)
	weight := 0
	for _, i := range c.Members {
		x, e := policy.Play(s, c.Policy, i)
		want(t, "Play", []any{e, slices.Max(x.Peaks) <= s.Limit}, []any{api.OK, true})
		weight += s.Members[i].Weight
	}
	want(t, "the weight that is kept", weight >= need, true)
}

func TestPoliciesAreParsedAsTheyWerePrinted(t *testing.T) {
	r := rand.New(rand.NewSource(108))
	for range rounds {
		p := randomPolicy(r, randomSeason(r, 6, 8, 10))
		s, e := policy.Print(p)
		want(t, "Print", e, api.OK)
		again, i, e := policy.Parse(s)
		want(t, "Parse", []any{again, i, e}, []any{p, 0, api.OK})
	}
}

func TestTextsArePrintedAsTheyWereParsed(t *testing.T) {
	r := rand.New(rand.NewSource(109))
	parsed := 0
	for range 20 * rounds {
		text := []byte(spText)
		text[r.Intn(len(text))] = "0123456789 \nopencls"[r.Intn(19)]
		p, i, e := policy.Parse(string(text))
		if e != api.OK {
			continue
		}
		parsed++
		s, e := policy.Print(p)
		want(t, "Print", []any{s, i, e}, []any{string(text), 0, api.OK})
	}
	if parsed < rounds {
		t.Errorf("only %d texts are parsed", parsed)
	}
}
