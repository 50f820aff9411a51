package policy

import (
	"slices"

	"tideway/api"
	"tideway/checks"
	"tideway/lists"
)

// Certify returns the certificate of a policy.
func Certify(s Season, p Policy) (Certificate, api.Errno) {
	if e := CheckPolicy(s, p); e != api.OK {
		return Certificate{}, e
	}
	return Certificate{Policy: p.clone(), Members: s.kept(p)}, api.OK
}

// CheckCertificate returns OK for a certificate of a weight.
func CheckCertificate(s Season, need int, c Certificate) api.Errno {
	if e := checks.First(CheckSeason(s), checkNeed(need)); e != api.OK {
		return e
	}
	if e := checks.First(s.checkPolicy(c.Policy), s.checkNumbers(c.Members)); e != api.OK {
		return e
	}
	kept := s.kept(c.Policy)
	return checks.First(
		checks.Each(c.Members, func(member int) api.Errno {
			return checks.Unless(slices.Contains(kept, member), api.ErrProof)
		}),
		checks.Unless(s.weight(c.Members) >= need, api.ErrProof),
	)
}

// groups returns the groups of a season, in order.
func (s Season) groups() []Group {
	last := len(s.Ships) - 1
	return lists.Transform(s.split(s.allMembers(), last), func(members []int) Group {
		return Group{Members: members, Weight: s.mostTogether(members)}
	})
}

// mostTogether returns the greatest weight of those of some members that any one closings keep.
func (s Season) mostTogether(members []int) int {
	out := 0
	for c := range allClosings(len(s.Ships)) {
		out = max(out, s.weight(s.keptOf(members, c)))
	}
	return out
}

// areBelow reports whether groups have, together, less than a needed weight.
func areBelow(l []Group, need int) bool {
	sum := 0
	for _, g := range l {
		sum += g.Weight
	}
	return sum < need
}

func (g Group) equals(other Group) bool {
	return g.Weight == other.Weight && slices.Equal(g.Members, other.Members)
}

// Refuse returns the groups of a season whose weights are together below a needed one.
func Refuse(s Season, need int) ([]Group, api.Errno) {
	if e := checks.First(CheckSeason(s), checkNeed(need)); e != api.OK {
		return nil, e
	}
	groups := s.groups()
	if !areBelow(groups, need) {
		return nil, api.ErrNone
	}
	return groups, api.OK
}

// CheckRefusal returns OK for groups that refuse a weight.
func CheckRefusal(s Season, need int, l []Group) api.Errno {
	if e := checks.First(CheckSeason(s), checkNeed(need)); e != api.OK {
		return e
	}
	groups := s.groups()
	proves := slices.EqualFunc(l, groups, Group.equals) && areBelow(groups, need)
	return checks.Unless(proves, api.ErrProof)
}
