package basin

import (
	"iter"
	"slices"

	"tideway/api"
	"tideway/checks"
	"tideway/lists"
)

// CheckCondition returns the first error of a condition of a basin, or OK.
func CheckCondition(b Basin, c Condition) api.Errno {
	return checks.First(CheckBasin(b), b.checkCondition(c))
}

// checkCondition returns the first error of a condition itself, or OK.
func (b Basin) checkCondition(c Condition) api.Errno {
	return checks.First(
		checks.Range(c.Tide, -MaxHeight, MaxHeight),
		b.checkShape(len(c.Inflow)),
		checks.Each(c.Inflow, func(inflow int) api.Errno { return checks.Range(inflow, 0, MaxInflow) }),
	)
}

// checkTicks returns the error of a list with an element for each tick, or OK.
func checkTicks[T any](l []T, check func(T) api.Errno) api.Errno {
	return checks.First(checks.Most(len(l), MaxTicks), checks.Each(l, check))
}

// node returns the number of the node of a link: it is To if From is the sea.
func (l Link) node() int {
	if l.From == sea {
		return l.To
	}
	return l.From
}

// flows visits the links with their flows; each one is computed from the volumes as they are when it is visited.
func flows(b Basin, volumes []int, c Condition) iter.Seq2[Link, int] {
	return func(yield func(Link, int) bool) {
		kinds := linkKinds()
		for _, l := range b.Links {
			node := l.node()
			w := water{volume: volumes[node], area: b.Nodes[node].Area, tide: c.Tide, open: c.Open}
			if !yield(l, kinds[l.Kind].flow(l, w)) {
				return
			}
		}
	}
}

// passed is a step that was made: the flows of all links, and the volumes behind it.
type passed struct {
	flows   []int
	volumes []int
}

// pass makes a step. Its error is ErrLarge if a volume is too large on the way.
func pass(b Basin, v []int, c Condition) (passed, api.Errno) {
	out := passed{volumes: slices.Clone(v)}
	for node, inflow := range c.Inflow {
		out.volumes[node] += inflow
	}
	e := checkSize(out.volumes)
	for l, flow := range flows(b, out.volumes, c) {
		move(out.volumes, l, flow)
		out.flows = append(out.flows, flow)
		e = checks.First(e, checkSize(out.volumes))
	}
	if e != api.OK {
		return passed{}, e
	}
	return out, api.OK
}

// checkSize returns ErrLarge if a volume is too large.
func checkSize(volumes []int) api.Errno {
	return checks.Unless(slices.Max(volumes) <= MaxVolume, api.ErrLarge)
}

// move takes a flow from the node From and adds it to the node To. The sea gives and takes any volume.
func move(volumes []int, l Link, flow int) {
	if l.From != sea {
		volumes[l.From] -= flow
	}
	if l.To != sea {
		volumes[l.To] += flow
	}
}

// passAll makes the steps of all conditions.
func passAll(b Basin, v []int, l []Condition) ([]passed, api.Errno) {
	out := make([]passed, len(l))
	for tick := range len(l) {
		next, e := pass(b, v, l[tick])
		if e != api.OK {
			return nil, e
		}
		out[tick] = next
		v = next.volumes
	}
	return out, api.OK
}

// passChecked makes the steps of all conditions if the arguments have no error.
func passChecked(b Basin, v []int, l []Condition) ([]passed, api.Errno) {
	if e := checks.First(CheckVolumes(b, v), checkTicks(l, b.checkCondition)); e != api.OK {
		return nil, e
	}
	return passAll(b, v, l)
}

// passOne makes the step of a condition if the arguments have no error.
func passOne(b Basin, v []int, c Condition) (passed, api.Errno) {
	made, e := passChecked(b, v, []Condition{c})
	if e != api.OK {
		return passed{}, e
	}
	return made[0], api.OK
}

// Flows returns the flow of each link in a step.
func Flows(b Basin, v []int, c Condition) ([]int, api.Errno) {
	made, e := passOne(b, v, c)
	return made.flows, e
}

// Step returns the volumes behind a step.
func Step(b Basin, v []int, c Condition) ([]int, api.Errno) {
	made, e := passOne(b, v, c)
	return made.volumes, e
}

// Run returns the volumes behind each step.
func Run(b Basin, v []int, l []Condition) ([][]int, api.Errno) {
	made, e := passChecked(b, v, l)
	return lists.Transform(made, func(p passed) []int { return p.volumes }), e
}

// Account returns what came and went in some steps.
func Account(b Basin, v []int, l []Condition) (Balance, api.Errno) {
	made, e := passChecked(b, v, l)
	var out Balance
	for tick, p := range made {
		for _, inflow := range l[tick].Inflow {
			out.Rivers += inflow
		}
		for i, link := range b.Links {
			out.add(link, p.flows[i])
		}
	}
	return out, e
}

// add adds what a link lets in from the sea, or out to it: a barrier may do either.
func (x *Balance) add(l Link, flow int) {
	if l.From == sea {
		x.Sea += max(flow, 0)
		x.Out += max(-flow, 0)
	}
	if l.To == sea {
		x.Out += flow
	}
}

// firstAbove returns the first step behind which a node is above its limit, this node, and whether there is one.
func firstAbove(b Basin, made []passed) (int, int, bool) {
	tick, node, found := 0, 0, false
search:
	for t, p := range made {
		for i, n := range b.Nodes {
			if n.isAbove(p.volumes[i]) {
				tick, node, found = t, i, true
				break search
			}
		}
	}
	return tick, node, found
}

// First returns the first step behind which a node is above its limit, and this node.
func First(b Basin, v []int, l []Condition) (int, int, api.Errno) {
	made, e := passChecked(b, v, l)
	if e != api.OK {
		return 0, 0, e
	}
	tick, node, found := firstAbove(b, made)
	return tick, node, checks.Unless(found, api.ErrNone)
}

// Until returns after how many steps with the same condition a node has a level.
func Until(b Basin, v []int, c Condition, node, level int) (int, api.Errno) {
	if e := checks.First(CheckVolumes(b, v), b.checkCondition(c), b.checkNumber(node), checkHeight(level)); e != api.OK {
		return 0, e
	}
	has := func(volumes []int) bool { return b.Nodes[node].level(volumes[node]) >= level }
	if has(v) {
		return 0, api.OK
	}
	for tick := range MaxTicks {
		next, e := pass(b, v, c)
		if e != api.OK {
			return 0, e
		}
		if has(next.volumes) {
			return tick + 1, api.OK
		}
		v = next.volumes
	}
	return 0, api.ErrNone
}
