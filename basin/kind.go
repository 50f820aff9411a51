package basin

import (
	"slices"

	"tideway/ratios"
)

// The kinds of links.
const (
	barrier = "barrier"
	leak    = "leak"
	outfall = "outfall"
	pump    = "pump"
	weir    = "weir"
)

var kindOrder = []string{barrier, leak, outfall, pump, weir}

// Kinds returns the kinds of links.
func Kinds() []string {
	return slices.Clone(kindOrder)
}

// kind is which ends of a link are the sea, the greatest At, and its flow.
type kind struct {
	fromSea bool
	toSea   bool
	highest int
	flow    func(l Link, w water) int
}

// water is what the flow of a link depends on: the volume and the area are those of its node.
type water struct {
	volume int
	area   int
	tide   int
	open   bool
}

func linkKinds() map[string]kind {
	return map[string]kind{
		barrier: {fromSea: true, flow: barrierFlow},
		leak:    {fromSea: true, flow: leakFlow},
		outfall: {toSea: true, highest: MaxHeight, flow: outfallFlow},
		pump:    {highest: MaxHeight, flow: pumpFlow},
		weir:    {highest: MaxHeight, flow: weirFlow},
	}
}

// over returns the volume that stands above a level: below 0 if the water is lower.
func (w water) over(level int) int {
	return w.volume - w.area*level
}

func barrierFlow(l Link, w water) int {
	if !w.open {
		return 0
	}
	return max(ratios.Floor(-w.over(w.tide), l.Rate), -w.volume)
}

func leakFlow(l Link, w water) int {
	return max(ratios.Floor(-w.over(w.tide), l.Rate), 0)
}

func outfallFlow(l Link, w water) int {
	return max(ratios.Floor(w.over(max(w.tide, l.At)), l.Rate), 0)
}

func pumpFlow(l Link, w water) int {
	return max(min(w.over(l.At), l.Rate), 0)
}

func weirFlow(l Link, w water) int {
	return max(ratios.Floor(w.over(l.At), l.Rate), 0)
}
