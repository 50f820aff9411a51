package surge

import (
	"slices"

	"tideway/api"
	"tideway/checks"
	"tideway/gauge"
	"tideway/lists"
)

// roster has the numbers of the members of a domain by their names.
type roster map[string]int

func (d Domain) roster() roster {
	return lists.Indices(d.Members, func(m Member) string { return m.Name })
}

// entry is a piece with its key: the run, the number of the member, the tick, and the row.
type entry struct {
	key   [4]int
	piece Piece
}

func (r roster) entry(p Piece) entry {
	return entry{key: [4]int{p.Run, r[p.Member], p.Tick, p.Row}, piece: p}
}

// compare returns a number below 0 if the piece comes before the other one, above 0 if it comes behind it.
func (x entry) compare(other entry) int {
	return slices.Compare(x.key[:], other.key[:])
}

// CheckPiece returns the first error of a piece, or OK.
func CheckPiece(d Domain, p Piece) api.Errno {
	if e := CheckDomain(d); e != api.OK {
		return e
	}
	return checkPiece(d, d.roster(), p)
}

// checkPiece returns the first error of a piece of a domain without one, or OK.
func checkPiece(d Domain, r roster, p Piece) api.Errno {
	return checks.First(
		checkTime(p.Run),
		checks.Known(r, p.Member),
		checks.Range(p.Tick, 0, d.Ticks-1),
		checks.Range(p.Row, 0, d.Rows-1),
		checks.Unless(len(p.Values) == d.Columns, api.ErrShape),
		checks.Each(p.Values, gauge.CheckLevel),
	)
}

// CheckStore returns the first error of a store, or OK.
func CheckStore(d Domain, l []Piece) api.Errno {
	if e := checks.First(CheckDomain(d), checks.Most(len(l), MaxPieces)); e != api.OK {
		return e
	}
	members := d.roster()
	before := entry{key: [4]int{-1}} // no piece has a run below 0
	return checks.Each(l, func(p Piece) api.Errno {
		next := members.entry(p)
		inOrder := before.compare(next) < 0
		before = next
		return checks.First(checkPiece(d, members, p), checks.Unless(inOrder, api.ErrOrder))
	})
}

// Merge returns two stores merged.
func Merge(d Domain, a, b []Piece) ([]Piece, api.Errno) {
	if e := checks.First(CheckStore(d, a), CheckStore(d, b)); e != api.OK {
		return nil, e
	}
	members := d.roster()
	all := lists.Transform(slices.Concat(a, b), members.entry)
	slices.SortFunc(all, entry.compare)
	var out []Piece
	for i, x := range all {
		if i == 0 || x.key != all[i-1].key {
			out = append(out, x.piece.clone())
			continue
		}
		if !slices.Equal(x.piece.Values, all[i-1].piece.Values) {
			return nil, api.ErrConflict
		}
	}
	if len(out) > MaxPieces {
		return nil, api.ErrMany
	}
	return out, api.OK
}

// clone returns a piece with values of its own.
func (p Piece) clone() Piece {
	p.Values = plain(p.Values)
	return p
}

// plain returns a copy of values with 0 for -0: so stores are merged to the same bits in any order.
func plain(values []float32) []float32 {
	out := make([]float32, len(values))
	copy(out, values)
	for i, x := range out {
		if x == 0 {
			out[i] = 0
		}
	}
	return out
}
