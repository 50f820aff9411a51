package policy_test

import (
	"fmt"
	"math"
	"math/rand"
	"reflect"
	"slices"
	"strings"
	"testing"

	"tideway/api"
	"tideway/policy"
)

// want compares what results print as: so nil and empty lists are equal.
func want(t *testing.T, what string, got, wanted any) {
	t.Helper()
	if g, w := fmt.Sprintf("%+v", got), fmt.Sprintf("%+v", wanted); g != w {
		t.Errorf("%s: got %s, want %s", what, g, w)
	}
}

// wantError reports an error that is not the wanted one, and a result beside an error that is not zero.
func wantError(t *testing.T, what string, got any, e, wanted api.Errno) {
	t.Helper()
	want(t, "error of "+what, e, wanted)
	if e != api.OK {
		want(t, what+" beside an error", got, reflect.Zero(reflect.TypeOf(got)).Interface())
	}
}

func list(l ...int) []int {
	return l
}

func member(name string, weight int, classes, outside, inflow []int) policy.Member {
	return policy.Member{Name: name, Weight: weight, Classes: classes, Outside: outside, Inflow: inflow}
}

// ss is the season S of the chapter's examples.
func ss() policy.Season {
	return policy.Season{Limit: 30, Ships: list(5, 7), Members: []policy.Member{
		member("a", 2, list(0, 0), list(20, 40), list(10, 10)),
		member("b", 1, list(0, 1), list(40, 20), list(10, 25)),
		member("c", 1, list(0, 1), list(20, 20), list(10, 10)),
	}}
}

// sp is a policy for S: whether the barrier is closed behind the histories 0; 0 0; and 0 1.
func sp(first, again, other bool) policy.Policy {
	return ruled([][]int{{0}, {0, 0}, {0, 1}}, first, again, other)
}

// ruled returns the policy with rules for histories.
func ruled(histories [][]int, closed ...bool) policy.Policy {
	var p policy.Policy
	for i, classes := range histories {
		p.Rules = append(p.Rules, policy.Rule{Classes: slices.Clone(classes), Close: closed[i]})
	}
	return p
}

// most is a season with as many tides and members as there may be, each number of which is as large as it may be.
func most() policy.Season {
	s := policy.Season{Limit: 1024, Ships: slices.Repeat(list(1000), 6)}
	for i := range 8 {
		name := strings.Repeat(string(rune('a'+i)), 24)
		s.Members = append(s.Members, member(name, 1000, slices.Repeat(list(9), 6), slices.Repeat(list(1024), 6), slices.Repeat(list(1024), 6)))
	}
	return s
}

// changed is S after a change.
func changed(f func(s *policy.Season)) policy.Season {
	s := ss()
	f(&s)
	return s
}

// with is S with another member.
func with(i int, f func(m *policy.Member)) policy.Season {
	return changed(func(s *policy.Season) { f(&s.Members[i]) })
}

// badSeason is a season with its first error.
type badSeason struct {
	s policy.Season
	e api.Errno
}

func badSeasons() []badSeason {
	out := []badSeason{
		{policy.Season{}, api.ErrEmpty}, {policy.Season{Limit: -1}, api.ErrRange}, {policy.Season{Limit: 1025, Ships: make([]int, 7)}, api.ErrRange},
		{changed(func(s *policy.Season) { s.Ships = nil }), api.ErrEmpty}, {changed(func(s *policy.Season) { s.Ships, s.Members = nil, make([]policy.Member, 9) }), api.ErrEmpty},
		{changed(func(s *policy.Season) { s.Ships = make([]int, 7) }), api.ErrMany}, {policy.Season{Ships: slices.Repeat(list(-1), 7)}, api.ErrMany},
		{changed(func(s *policy.Season) { s.Members = nil }), api.ErrEmpty}, {policy.Season{Ships: list(0, 0, 0, 0, 0, 0)}, api.ErrEmpty}, {policy.Season{Ships: list(0)}, api.ErrEmpty},
		{changed(func(s *policy.Season) { s.Members = append(most().Members, s.Members[0]) }), api.ErrMany}, {policy.Season{Ships: list(0), Members: make([]policy.Member, 9)}, api.ErrMany},
		{changed(func(s *policy.Season) { s.Ships = list(5) }), api.ErrShape}, {changed(func(s *policy.Season) { s.Ships = list(5, 7, 9) }), api.ErrShape},
	}
	for _, n := range []int{math.MinInt, -1, 1025, math.MaxInt} {
		out = append(out, badSeason{changed(func(s *policy.Season) { s.Limit = n }), api.ErrRange})
	}
	for _, n := range []int{math.MinInt, -1, 1001, math.MaxInt} {
		out = append(out,
			badSeason{changed(func(s *policy.Season) { s.Ships[0] = n }), api.ErrRange}, badSeason{changed(func(s *policy.Season) { s.Ships[1] = n }), api.ErrRange},
			badSeason{policy.Season{Ships: list(0, n)}, api.ErrRange}, badSeason{policy.Season{Ships: list(n), Members: make([]policy.Member, 9)}, api.ErrRange},
		)
	}
	return append(out, badMembers()...)
}

// badMembers are seasons whose members have errors.
func badMembers() []badSeason {
	out := []badSeason{
		{policy.Season{Ships: list(0), Members: make([]policy.Member, 8)}, api.ErrName},
		{with(0, func(m *policy.Member) { *m = member("a", 0, nil, nil, nil) }), api.ErrRange}, {with(1, func(m *policy.Member) { *m = member("9", 0, nil, nil, nil) }), api.ErrName}, {with(1, func(m *policy.Member) { *m = member("a", 0, nil, nil, nil) }), api.ErrTwice}, {with(2, func(m *policy.Member) { *m = member("a", 1, list(10), nil, nil) }), api.ErrTwice},
		{changed(func(s *policy.Season) { s.Members[1].Name, s.Members[2].Name = "9", "9" }), api.ErrName},
		{changed(func(s *policy.Season) { s.Members[1].Weight, s.Members[2].Name = 0, "9" }), api.ErrRange}, {changed(func(s *policy.Season) { s.Members[0].Inflow[1], s.Members[1].Name = -1, "a" }), api.ErrRange}, {changed(func(s *policy.Season) { s.Members[0].Inflow, s.Members[1].Weight = nil, 0 }), api.ErrShape}, {changed(func(s *policy.Season) { s.Members[1].Classes[0], s.Members[2].Classes = 10, nil }), api.ErrRange},
	}
	for _, name := range []string{"", "9", "a b", "_a", "é", "A-", strings.Repeat("a", 25)} {
		out = append(out, badSeason{with(0, func(m *policy.Member) { m.Name = name }), api.ErrName}, badSeason{with(2, func(m *policy.Member) { m.Name, m.Weight = name, 0 }), api.ErrName})
	}
	for _, n := range []int{math.MinInt, -1, 0, 1001, math.MaxInt} {
		out = append(out, badSeason{with(0, func(m *policy.Member) { m.Weight = n }), api.ErrRange}, badSeason{with(2, func(m *policy.Member) { m.Weight, m.Classes = n, nil }), api.ErrRange})
	}
	for i := range 3 {
		field := func(m *policy.Member) *[]int { return []*[]int{&m.Classes, &m.Outside, &m.Inflow}[i] }
		for _, l := range [][]int{nil, {0}, {0, 0, 0}, {-1, -1, -1}} {
			out = append(out, badSeason{with(0, func(m *policy.Member) { *field(m) = l }), api.ErrShape}, badSeason{with(2, func(m *policy.Member) { m.Classes[0], m.Outside[0], m.Inflow[0] = -1, -1, -1; *field(m) = l }), api.ErrShape})
		}
		for _, n := range []int{math.MinInt, -1, list(10, 1025, 1025)[i], math.MaxInt} {
			out = append(out, badSeason{with(0, func(m *policy.Member) { (*field(m))[0] = n }), api.ErrRange}, badSeason{with(2, func(m *policy.Member) { (*field(m))[1] = n }), api.ErrRange})
		}
	}
	return out
}

// badPolicy is a policy for S with its first error.
type badPolicy struct {
	p policy.Policy
	e api.Errno
}

func badPolicies() []badPolicy {
	var out []badPolicy
	for _, classes := range [][][]int{nil, {{0}}, {{0}, {0, 0}}, {{0}, {0, 0}, {0, 1}, {0, 1}}, {{0}, {0, 0}, {0, 1}, {1}}, {{7}, {7}}, {nil, nil, nil, nil}} {
		out = append(out, badPolicy{ruled(classes, make([]bool, 4)...), api.ErrShape})
	}
	for _, classes := range [][][]int{{nil, nil, nil}, {nil, {0, 0}, {0, 1}}, {{1}, {0, 0}, {0, 1}}, {{0, 0}, {0, 0}, {0, 1}}, {{0}, {0}, {0, 1}}, {{0}, {0, 1}, {0, 0}}, {{0}, {0, 0}, {0, 0}}, {{0}, {0, 0}, {0, 2}}, {{0}, {0, 0}, {0, 1, 0}}, {{0}, {0, 0, 0}, {0, 1}}, {{0, 0}, {0}, {0, 1}}, {{0}, {0, 0}, {1, 1}}, {{0}, {0, 0}, {0, -1}}, {{0}, {0, 0}, {0, 1, 0, 0, 0, 0, 0}}} {
		out = append(out, badPolicy{ruled(classes, true, false, true), api.ErrOrder})
	}
	return out
}

// badList is numbers of members of S with their first error.
type badList struct {
	l []int
	e api.Errno
}

func badLists() []badList {
	return []badList{
		{make([]int, 9), api.ErrMany}, {list(-1, 0, 1, 2, 3, 4, 5, 6, 7), api.ErrMany}, {list(0, 1, 2, 3, 4, 5, 6, 7), api.ErrUnknown},
		{list(-1), api.ErrUnknown}, {list(3), api.ErrUnknown}, {list(0, 3), api.ErrUnknown}, {list(2, -1), api.ErrUnknown}, {list(math.MinInt), api.ErrUnknown}, {list(0, math.MaxInt), api.ErrUnknown},
		{list(0, 0), api.ErrOrder}, {list(1, 0), api.ErrOrder}, {list(0, 2, 1), api.ErrOrder}, {list(0, 2, 2), api.ErrOrder}, {list(1, 0, 3), api.ErrOrder}, {list(3, 0), api.ErrUnknown}, {list(0, 1, 2, 2), api.ErrOrder}, {list(0, 1, 2, 0), api.ErrOrder},
	}
}

// The numbers that no member of S has, and those that no needed weight is.
var (
	badNumbers = []int{math.MinInt, -1, 3, math.MaxInt}
	badNeeds   = []int{math.MinInt, -1, 8001, math.MaxInt}
)

// randomNumbers returns n numbers from 0 to most.
func randomNumbers(r *rand.Rand, n, most int) []int {
	out := make([]int, n)
	for i := range out {
		out[i] = r.Intn(most + 1)
	}
	return out
}

// randomSeason returns a season with up to so many tides, members and classes.
func randomSeason(r *rand.Rand, tides, members, classes int) policy.Season {
	n := 1 + r.Intn(tides)
	s := policy.Season{Limit: 20 + r.Intn(25), Ships: randomNumbers(r, n, 9)}
	for i := range 1 + r.Intn(members) {
		s.Members = append(s.Members, member(string(rune('a'+i)), 1+r.Intn(4), randomNumbers(r, n, r.Intn(classes)), randomNumbers(r, n, 60), randomNumbers(r, n, 25)))
	}
	return s
}

// randomPolicy returns a policy for a season.
func randomPolicy(r *rand.Rand, s policy.Season) policy.Policy {
	l := histories(s)
	closed := make([]bool, len(l))
	often := 1 + r.Intn(4)
	for i := range closed {
		closed[i] = r.Intn(often) == 0
	}
	return ruled(l, closed...)
}

// The functions below compute by the definitions of the chapter, in other ways than the program.

// histories returns the histories of a season.
func histories(s policy.Season) [][]int {
	var out [][]int
	for tide := range s.Ships {
		var longer [][]int
		for _, m := range s.Members {
			h := m.Classes[:tide+1]
			if !slices.ContainsFunc(longer, func(l []int) bool { return slices.Equal(l, h) }) {
				longer = append(longer, slices.Clone(h))
			}
		}
		slices.SortFunc(longer, slices.Compare[[]int])
		out = append(out, longer...)
	}
	return out
}

// closedBy returns the closings of a member by a policy.
func closedBy(s policy.Season, p policy.Policy, i int) []bool {
	var out []bool
	for tide := range s.Ships {
		for _, rule := range p.Rules {
			if fmt.Sprint(rule.Classes) == fmt.Sprint(s.Members[i].Classes[:tide+1]) {
				out = append(out, rule.Close)
			}
		}
	}
	return out
}

// peaks returns the peaks of a member by closings: at a closed tide the inflows since the last open one.
func peaks(m policy.Member, closed []bool) []int {
	var out []int
	for tide, outside := range m.Outside {
		if !closed[tide] {
			out = append(out, outside)
			continue
		}
		peak := 0
		for k := tide; k >= 0 && closed[k]; k-- {
			peak += m.Inflow[k]
		}
		out = append(out, peak)
	}
	return out
}

// lost returns the first tide at which a peak is above the limit: the number of tides if none is.
func lost(s policy.Season, i int, closed []bool) int {
	for tide, peak := range peaks(s.Members[i], closed) {
		if peak > s.Limit {
			return tide
		}
	}
	return len(s.Ships)
}

func isKept(s policy.Season, i int, closed []bool) bool {
	return lost(s, i, closed) == len(s.Ships)
}

// everyClosings returns all closings of so many tides, in the order in which the first ones are chosen.
func everyClosings(tides int) [][]bool {
	if tides == 0 {
		return [][]bool{nil}
	}
	var out [][]bool
	for _, first := range []bool{false, true} {
		for _, rest := range everyClosings(tides - 1) {
			out = append(out, append([]bool{first}, rest...))
		}
	}
	return out
}

// count returns how many tides are closed.
func count(closed []bool) int {
	out := 0
	for _, is := range closed {
		if is {
			out++
		}
	}
	return out
}

// figures are what is counted of a policy.
type figures struct {
	kept     []int
	weight   int
	closings int
	delay    int
}

func figuresOf(s policy.Season, p policy.Policy) figures {
	var out figures
	for i, m := range s.Members {
		closed := closedBy(s, p, i)
		if isKept(s, i, closed) {
			out.kept = append(out.kept, i)
			out.weight += m.Weight
		}
		out.closings += m.Weight * count(closed)
		for tide, is := range closed {
			if is {
				out.delay += m.Weight * s.Ships[tide]
			}
		}
	}
	return out
}

// total returns the weight of all members.
func total(s policy.Season) int {
	out := 0
	for _, m := range s.Members {
		out += m.Weight
	}
	return out
}

// alone returns the first closings of a member alone, and whether there are any.
func alone(s policy.Season, i int) ([]bool, bool) {
	var keeping [][]bool
	for _, closed := range everyClosings(len(s.Ships)) {
		if isKept(s, i, closed) {
			keeping = append(keeping, closed)
		}
	}
	slices.SortStableFunc(keeping, func(a, b []bool) int { return count(a) - count(b) })
	if len(keeping) == 0 {
		return nil, false
	}
	return keeping[0], true
}

// doomed returns the tide at which a member is doomed: the number of tides if it is not.
func doomed(s policy.Season, i int) int {
	out := 0
	for _, closed := range everyClosings(len(s.Ships)) {
		out = max(out, lost(s, i, closed))
	}
	return out
}

// groups returns the groups of a season.
func groups(s policy.Season) []policy.Group {
	var out []policy.Group
	var found []string
	for i, m := range s.Members {
		key := fmt.Sprint(m.Classes)
		k := slices.Index(found, key)
		if k < 0 {
			k = len(found)
			found = append(found, key)
			out = append(out, policy.Group{})
		}
		out[k].Members = append(out[k].Members, i)
	}
	for k, g := range out {
		for _, closed := range everyClosings(len(s.Ships)) {
			weight := 0
			for _, i := range g.Members {
				if isKept(s, i, closed) {
					weight += s.Members[i].Weight
				}
			}
			out[k].Weight = max(out[k].Weight, weight)
		}
	}
	return out
}

// policies returns all policies for a season.
func policies(s policy.Season) []policy.Policy {
	var out []policy.Policy
	l := histories(s)
	for _, closed := range everyClosings(len(l)) {
		out = append(out, ruled(l, closed...))
	}
	return out
}
