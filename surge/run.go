package surge

import (
	"iter"
	"slices"
	"sort"

	"tideway/api"
	"tideway/checks"
	"tideway/lists"
)

// ofRun visits the pieces of a run in a store, in their order.
func ofRun(l []Piece, run int) iter.Seq[Piece] {
	return func(yield func(Piece) bool) {
		from := sort.Search(len(l), func(i int) bool { return l[i].Run >= run })
		for _, p := range l[from:] {
			if p.Run != run || !yield(p) {
				return
			}
		}
	}
}

// slots returns the slots of the pieces of a run in a store, in their order.
func slots(l []Piece, run int) []Slot {
	var out []Slot
	for p := range ofRun(l, run) {
		out = append(out, Slot{Member: p.Member, Tick: p.Tick, Row: p.Row})
	}
	return out
}

// isComplete reports whether a store has all pieces of a run: as each one is there once, their number tells it.
func isComplete(d Domain, l []Piece, run int) bool {
	return len(slots(l, run)) == d.pieces()
}

// Runs returns the runs of which there is a piece.
func Runs(d Domain, l []Piece) ([]int, api.Errno) {
	if e := CheckStore(d, l); e != api.OK {
		return nil, e
	}
	return slices.Compact(lists.Transform(l, func(p Piece) int { return p.Run })), api.OK
}

// Missing returns how many pieces of a run are missing, and the first one.
func Missing(d Domain, l []Piece, run int) (int, Slot, api.Errno) {
	if e := checks.First(CheckStore(d, l), checkTime(run)); e != api.OK {
		return 0, Slot{}, e
	}
	present := slots(l, run)
	return d.pieces() - len(present), firstMissing(d, present), api.OK
}

// firstMissing returns the first slot of a run that is not present: the zero value if all are. Those that are present are in order.
func firstMissing(d Domain, present []Slot) Slot {
	var first Slot
search:
	for _, m := range d.Members {
		for tick := range d.Ticks {
			for row := range d.Rows {
				next := Slot{Member: m.Name, Tick: tick, Row: row}
				if len(present) == 0 || present[0] != next {
					first = next
					break search
				}
				present = present[1:]
			}
		}
	}
	return first
}

// Latest returns the greatest run that is complete.
func Latest(d Domain, l []Piece, now int) (int, api.Errno) {
	runs, wrongStore := Runs(d, l)
	if e := checks.First(wrongStore, checkTime(now)); e != api.OK {
		return 0, e
	}
	for _, run := range slices.Backward(runs) {
		if run <= now && isComplete(d, l, run) {
			return run, api.OK
		}
	}
	return 0, api.ErrNone
}
