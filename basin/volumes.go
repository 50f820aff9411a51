package basin

import (
	"tideway/api"
	"tideway/checks"
)

// CheckVolumes returns the first error of the volumes of a basin, or OK.
func CheckVolumes(b Basin, v []int) api.Errno {
	return checks.First(
		CheckBasin(b),
		b.checkShape(len(v)),
		checks.Each(v, func(volume int) api.Errno { return checks.Range(volume, 0, MaxVolume) }),
	)
}

// checkShape returns ErrShape if a list has not as many elements as there are nodes.
func (b Basin) checkShape(n int) api.Errno {
	return checks.Unless(n == len(b.Nodes), api.ErrShape)
}

// level returns the level of a volume, which is not below 0.
func (n Node) level(volume int) int {
	return volume / n.Area
}

func (n Node) isAbove(volume int) bool {
	return n.level(volume) > n.Limit
}

// room returns by how much a volume may be greater, or -1.
func (n Node) room(volume int) int {
	// The greatest volume that is not above the limit is one less than that of the next level.
	return max(n.Area*(n.Limit+1)-1-volume, -1)
}

// ofNodes returns what f gives for each node with its volume.
func ofNodes(b Basin, v []int, f func(n Node, volume int) int) []int {
	out := make([]int, len(v))
	for i, n := range b.Nodes {
		out[i] = f(n, v[i])
	}
	return out
}

// Levels returns the levels of volumes.
func Levels(b Basin, v []int) ([]int, api.Errno) {
	if e := CheckVolumes(b, v); e != api.OK {
		return nil, e
	}
	return ofNodes(b, v, Node.level), api.OK
}

// Above returns the nodes whose levels are above their limits.
func Above(b Basin, v []int) ([]int, api.Errno) {
	if e := CheckVolumes(b, v); e != api.OK {
		return nil, e
	}
	var out []int
	for i, n := range b.Nodes {
		if n.isAbove(v[i]) {
			out = append(out, i)
		}
	}
	return out, api.OK
}

// Room returns by how much volumes may be greater without any node above its limit.
func Room(b Basin, v []int) ([]int, api.Errno) {
	if e := CheckVolumes(b, v); e != api.OK {
		return nil, e
	}
	return ofNodes(b, v, Node.room), api.OK
}
