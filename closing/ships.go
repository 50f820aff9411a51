package closing

import (
	"cmp"
	"iter"
	"slices"

	"tideway/api"
	"tideway/checks"
	"tideway/lists"
	"tideway/sets"
)

// sideCount is the number of sides from which ships come.
const sideCount = 2

// sides says of each side whether a ship comes from it.
type sides [sideCount]bool

func (s Ship) sides() sides {
	var out sides
	out[s.Side] = true
	return out
}

// nothing stands for the passage before the first one.
var nothing = Passage{Ship: -1}

// traffic is ships without errors, the turn between passages from different sides, and the tick by which passages are cleared.
type traffic struct {
	ships []Ship
	turn  int
	clear int
}

// end returns the end of a passage.
func (t traffic) end(p Passage) int {
	return p.Start + t.ships[p.Ship].Length
}

// first returns the first passage of a ship behind another passage, or behind nothing.
func (t traffic) first(ship int, behind Passage) Passage {
	s := t.ships[ship]
	out := Passage{Ship: ship, Start: s.Arrival}
	if behind == nothing {
		return out
	}
	free := t.end(behind)
	if s.sides() != t.ships[behind.Ship].sides() {
		free += t.turn
	}
	out.Start = max(out.Start, free)
	return out
}

// isLate reports whether a ship is not cleared even if it passes next behind another passage, or behind nothing.
func (t traffic) isLate(ship int, behind Passage) bool {
	return t.end(t.first(ship, behind)) > t.clear
}

// group is ships by their ascending indices, and the sum of their priorities.
type group struct {
	ships    []int
	priority int
}

// compare orders groups by the greatest priorities, then by the first place at which they differ.
func (g group) compare(other group) int {
	return cmp.Or(cmp.Compare(other.priority, g.priority), slices.Compare(g.ships, other.ships))
}

// priority returns the sum of the priorities of some ships.
func (t traffic) priority(ships []int) int {
	out := 0
	for _, ship := range ships {
		out += t.ships[ship].Priority
	}
	return out
}

// groups visits all groups of ships.
func (t traffic) groups() iter.Seq[group] {
	return func(yield func(group) bool) {
		for s := range sets.All(len(t.ships)) {
			ships := s.Numbers()
			if !yield(group{ships: ships, priority: t.priority(ships)}) {
				return
			}
		}
	}
}

// quickest returns the passages of some ships behind another one whose last end is the least one, of several those whose ships come first, and whether there are any that are cleared.
func (t traffic) quickest(ships []int, behind Passage) ([]Passage, bool) {
	// What is late if it passes next is late behind others, too.
	late := func(ship int) bool { return t.isLate(ship, behind) }
	if slices.ContainsFunc(ships, late) {
		return nil, false
	}
	var out []Passage
	for i, ship := range ships {
		next := t.first(ship, behind)
		others := slices.Delete(slices.Clone(ships), i, i+1)
		rest, cleared := t.quickest(others, next)
		if !cleared {
			continue
		}
		l := append([]Passage{next}, rest...)
		if out == nil || t.lastEnd(l) < t.lastEnd(out) {
			out = l
		}
	}
	return out, len(out) == len(ships)
}

// lastEnd returns the end of the last one of passages.
func (t traffic) lastEnd(l []Passage) int {
	return t.end(l[len(l)-1])
}

// best returns the best passages.
func (t traffic) best() []Passage {
	var out []Passage
	for _, g := range slices.SortedFunc(t.groups(), group.compare) {
		l, cleared := t.quickest(g.ships, nothing)
		if cleared {
			out = l
			break
		}
	}
	return out
}

// check returns the first error of passages, or OK.
func (t traffic) check(l []Passage) api.Errno {
	once := checks.Once[int]()
	behind := nothing
	return checks.Each(l, func(p Passage) api.Errno {
		if e := checks.First(checks.Index(p.Ship, len(t.ships)), once(p.Ship)); e != api.OK {
			return e
		}
		earliest := t.first(p.Ship, behind)
		behind = p
		// A start may be any integer: its end may be none.
		latest := t.clear - t.ships[p.Ship].Length
		return checks.First(
			checks.Unless(p.Start >= earliest.Start, api.ErrOrder),
			checks.Unless(p.Start <= latest, api.ErrOver),
		)
	})
}

// checkTraffic returns the first error of ships, a turn and a tick, or OK.
func checkTraffic(l []Ship, turn, clear int) api.Errno {
	return checks.First(CheckShips(l), checkDuration(turn), checkTick(clear))
}

// Passages returns the best passages by a tick.
func Passages(l []Ship, turn, clear int) ([]Passage, api.Errno) {
	if e := checkTraffic(l, turn, clear); e != api.OK {
		return nil, e
	}
	return traffic{ships: l, turn: turn, clear: clear}.best(), api.OK
}

// CheckPassages returns the priorities of passages, or their first error.
func CheckPassages(l []Ship, turn, clear int, p []Passage) (int, api.Errno) {
	if e := checkTraffic(l, turn, clear); e != api.OK {
		return 0, e
	}
	t := traffic{ships: l, turn: turn, clear: clear}
	if e := t.check(p); e != api.OK {
		return 0, e
	}
	return t.priority(shipsOf(p)), api.OK
}

// shipsOf returns the ships of passages.
func shipsOf(l []Passage) []int {
	return lists.Transform(l, func(p Passage) int { return p.Ship })
}

// Uncleared returns the ships that the best passages leave out.
func Uncleared(l []Ship, turn, clear int) ([]int, api.Errno) {
	p, e := Passages(l, turn, clear)
	if e != api.OK {
		return nil, e
	}
	cleared := sets.Of(shipsOf(p))
	return (sets.Below(len(l)) &^ cleared).Numbers(), api.OK
}

// Late returns the ships that cannot pass by a tick.
func Late(l []Ship, clear int) ([]int, api.Errno) {
	if e := checks.First(CheckShips(l), checkTick(clear)); e != api.OK {
		return nil, e
	}
	t := traffic{ships: l, clear: clear}
	var out []int
	for ship := range l {
		if t.isLate(ship, nothing) {
			out = append(out, ship)
		}
	}
	return out, api.OK
}
