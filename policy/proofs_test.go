package policy_test

import (
	"math/rand"
	"slices"
	"testing"

	"tideway/api"
	"tideway/policy"
)

// P5.4: certificates and refusals

func certificate(p policy.Policy, members ...int) policy.Certificate {
	return policy.Certificate{Policy: p, Members: members}
}

func TestCertify(t *testing.T) {
	for _, row := range []struct {
		p    policy.Policy
		want []int
	}{
		{sp(false, true, false), list(0, 2)}, {sp(true, true, false), list(0, 1, 2)}, {sp(false, false, false), list(2)},
	} {
		c, e := policy.Certify(ss(), row.p)
		want(t, "Certify", []any{c, e}, []any{certificate(row.p, row.want...), api.OK})
	}
	p := sp(true, true, true)
	c, e := policy.Certify(changed(func(s *policy.Season) { s.Limit = 9 }), p)
	want(t, "Certify", []any{c, e}, []any{certificate(p), api.OK})
	for _, bad := range badPolicies() {
		c, e := policy.Certify(ss(), bad.p)
		wantError(t, "Certify", c, e, bad.e)
	}
	for _, bad := range badSeasons() {
		c, e := policy.Certify(bad.s, policy.Policy{})
		wantError(t, "Certify", c, e, bad.e)
	}
}

func TestCheckCertificate(t *testing.T) {
	p := sp(false, true, false)
	for _, row := range []struct {
		need int
		c    policy.Certificate
		want api.Errno
	}{
		{3, certificate(p, 0, 2), api.OK}, {0, certificate(p, 0, 2), api.OK}, {4, certificate(p, 0, 2), api.ErrProof}, {8000, certificate(p, 0, 2), api.ErrProof},
		// Not all members that are kept need to be counted.
		{2, certificate(p, 0), api.OK}, {3, certificate(p, 0), api.ErrProof}, {1, certificate(p, 2), api.OK}, {2, certificate(p, 2), api.ErrProof}, {0, certificate(p), api.OK}, {1, certificate(p), api.ErrProof},
		{0, certificate(p, 1), api.ErrProof}, {1, certificate(p, 1), api.ErrProof}, {3, certificate(p, 0, 1), api.ErrProof}, {3, certificate(p, 0, 1, 2), api.ErrProof}, {0, certificate(p, 1, 2), api.ErrProof},
		{4, certificate(sp(true, true, false), 0, 1, 2), api.OK}, {5, certificate(sp(true, true, false), 0, 1, 2), api.ErrProof},
	} {
		want(t, "CheckCertificate", policy.CheckCertificate(ss(), row.need, row.c), row.want)
	}
}

func TestErrorsOfCheckCertificate(t *testing.T) {
	p := sp(true, true, false)
	for _, bad := range badLists() {
		want(t, "CheckCertificate", policy.CheckCertificate(ss(), 0, certificate(p, bad.l...)), bad.e)
		want(t, "CheckCertificate", policy.CheckCertificate(ss(), 8000, certificate(p, bad.l...)), bad.e)
	}
	for _, bad := range badPolicies() {
		want(t, "CheckCertificate", policy.CheckCertificate(ss(), 0, certificate(bad.p)), bad.e)
		want(t, "CheckCertificate", policy.CheckCertificate(ss(), 8000, certificate(bad.p, -1)), bad.e)
	}
	for _, need := range badNeeds {
		want(t, "CheckCertificate", policy.CheckCertificate(ss(), need, certificate(p, 0)), api.ErrRange)
		want(t, "CheckCertificate", policy.CheckCertificate(ss(), need, policy.Certificate{}), api.ErrRange)
		for _, bad := range badSeasons() {
			want(t, "CheckCertificate", policy.CheckCertificate(bad.s, need, policy.Certificate{}), bad.e)
			want(t, "CheckCertificate", policy.CheckCertificate(bad.s, 0, certificate(p, 0)), bad.e)
		}
	}
}

func group(weight int, members ...int) policy.Group {
	return policy.Group{Members: members, Weight: weight}
}

// mixed is a season whose groups lie between each other, and hold members that need different closings.
func mixed() policy.Season {
	return policy.Season{Limit: 30, Ships: list(1, 1), Members: []policy.Member{
		member("a", 5, list(9, 1), list(40, 0), list(0, 0)), member("b", 3, list(0, 1), list(40, 0), list(31, 0)),
		member("c", 4, list(9, 1), list(0, 0), list(31, 0)), member("d", 7, list(9, 0), list(0, 40), list(0, 0)),
		member("e", 2, list(0, 1), list(40, 40), list(40, 40)), member("f", 2, list(9, 1), list(40, 0), list(0, 0)),
	}}
}

func TestRefuse(t *testing.T) {
	for _, row := range []struct {
		s    policy.Season
		need int
		want []policy.Group
	}{
		{ss(), 5, []policy.Group{group(2, 0), group(2, 1, 2)}}, {ss(), 8000, []policy.Group{group(2, 0), group(2, 1, 2)}}, // example 5
		{mixed(), 15, []policy.Group{group(7, 0, 2, 5), group(0, 1, 4), group(7, 3)}},
		{changed(func(s *policy.Season) { s.Limit = 9 }), 1, []policy.Group{group(0, 0), group(0, 1, 2)}},
		{with(0, func(m *policy.Member) { m.Classes = list(0, 1) }), 4, []policy.Group{group(3, 0, 1, 2)}},
	} {
		l, e := policy.Refuse(row.s, row.need)
		want(t, "Refuse", []any{l, e}, []any{row.want, api.OK})
		want(t, "CheckRefusal", policy.CheckRefusal(row.s, row.need, l), api.OK)
		sum := 0
		for _, g := range row.want {
			sum += g.Weight
		}
		for need := range sum + 1 {
			l, e := policy.Refuse(row.s, need)
			wantError(t, "Refuse", l, e, api.ErrNone)
			want(t, "CheckRefusal", policy.CheckRefusal(row.s, need, row.want), api.ErrProof)
		}
	}
}

func TestNotAllThatIsInfeasibleIsRefused(t *testing.T) {
	// Both groups have the same first class: what one of them needs, the other one cannot bear.
	s := policy.Season{Limit: 30, Ships: list(1, 1), Members: []policy.Member{
		member("a", 1, list(0, 0), list(40, 0), list(0, 0)), member("b", 1, list(0, 1), list(0, 0), list(31, 0)),
	}}
	wantNoBest(t, s, 2, api.ErrInfeasible)
	l, e := policy.Refuse(s, 2)
	wantError(t, "Refuse", l, e, api.ErrNone)
	l, e = policy.Refuse(s, 3)
	want(t, "Refuse", []any{l, e}, []any{[]policy.Group{group(1, 0), group(1, 1)}, api.OK})
}

func TestCheckRefusal(t *testing.T) {
	a, bc := group(2, 0), group(2, 1, 2)
	want(t, "CheckRefusal", policy.CheckRefusal(ss(), 5, []policy.Group{a, bc}), api.OK)
	for _, l := range [][]policy.Group{
		nil, {a}, {bc}, {bc, a}, {a, bc, bc}, {a, bc, {}}, {a, a}, {group(4, 0, 1, 2)}, {group(1, 0), bc}, {group(3, 0), bc}, {a, group(1, 1, 2)}, {a, group(3, 1, 2)}, {group(-2, 0), bc}, {a, group(2, 2, 1)}, {a, group(2, 1)}, {a, group(2, 1, 2, 2)}, {a, group(2, 1, 3)}, {group(2, 1), group(2, 0, 2)}, {a, group(1, 1), group(1, 2)}, {group(2), group(2)}, make([]policy.Group, 300),
	} {
		want(t, "CheckRefusal", policy.CheckRefusal(ss(), 5, l), api.ErrProof)
	}
}

func TestErrorsOfRefusals(t *testing.T) {
	good := []policy.Group{group(2, 0), group(2, 1, 2)}
	for _, need := range badNeeds {
		l, e := policy.Refuse(ss(), need)
		wantError(t, "Refuse", l, e, api.ErrRange)
		want(t, "CheckRefusal", policy.CheckRefusal(ss(), need, good), api.ErrRange)
		want(t, "CheckRefusal", policy.CheckRefusal(ss(), need, nil), api.ErrRange)
		for _, bad := range badSeasons() {
			l, e := policy.Refuse(bad.s, need)
			wantError(t, "Refuse", l, e, bad.e)
			want(t, "CheckRefusal", policy.CheckRefusal(bad.s, need, nil), bad.e)
			want(t, "CheckRefusal", policy.CheckRefusal(bad.s, 8000, good), bad.e)
		}
	}
}

func TestProofsByDefinition(t *testing.T) {
	r := rand.New(rand.NewSource(97))
	for range 500 {
		s := randomSeason(r, 6, 8, 2)
		wanted := groups(s)
		sum := 0
		for _, g := range wanted {
			sum += g.Weight
		}
		l, e := policy.Refuse(s, sum+1)
		want(t, "Refuse", []any{l, e}, []any{wanted, api.OK})
		l, e = policy.Refuse(s, sum)
		wantError(t, "Refuse", l, e, api.ErrNone)
		p := randomPolicy(r, s)
		f := figuresOf(s, p)
		c, e := policy.Certify(s, p)
		want(t, "Certify", []any{c, e}, []any{certificate(p, f.kept...), api.OK})
		want(t, "CheckCertificate", policy.CheckCertificate(s, f.weight, c), api.OK)
		want(t, "CheckCertificate", policy.CheckCertificate(s, f.weight+1, c), api.ErrProof)
		for i := range s.Members {
			wanted := api.ErrProof
			if slices.Contains(f.kept, i) {
				wanted = api.OK
			}
			want(t, "CheckCertificate", policy.CheckCertificate(s, 1, certificate(p, i)), wanted)
		}
	}
}
