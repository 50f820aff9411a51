package surge

import (
	"tideway/api"
	"tideway/checks"
	"tideway/gauge"
)

const (
	inCell       = 4               // quarters of a cell in each direction
	inValue      = inCell * inCell // shares of the value at a place
	toSixteenths = 4               // bits by which 256ths are shifted: so they are rounded down, below 0, too
)

// Field returns the field of a member for a tick of a run.
func Field(d Domain, l []Piece, run int, member string, tick int) ([][]float32, api.Errno) {
	if e := checks.First(
		CheckStore(d, l),
		checkTime(run),
		checks.Known(d.roster(), member),
		checks.Range(tick, 0, d.Ticks-1),
	); e != api.OK {
		return nil, e
	}
	var out [][]float32
	for p := range ofRun(l, run) {
		if p.Member == member && p.Tick == tick {
			out = append(out, plain(p.Values))
		}
	}
	if len(out) < d.Rows {
		return nil, api.ErrNone
	}
	return out, api.OK
}

// At returns the value of a field at a place, in 256ths.
func At(field [][]float32, p Place) (int, api.Errno) {
	if e := checkField(field); e != api.OK {
		return 0, e
	}
	if e := checkPlace(p, len(field), len(field[0])); e != api.OK {
		return 0, e
	}
	return at(field, p), api.OK
}

// checkField returns the first error of a field, or OK.
func checkField(field [][]float32) api.Errno {
	if e := checks.Count(len(field), MaxSide); e != api.OK {
		return e
	}
	return checks.Each(field, func(row []float32) api.Errno {
		return checks.First(
			checks.Count(len(row), MaxSide),
			checks.Unless(len(row) == len(field[0]), api.ErrShape),
			checks.Each(row, gauge.CheckLevel),
		)
	})
}

// checkPlace returns the error of a place in a field with so many rows and columns, or OK.
func checkPlace(p Place, rows, columns int) api.Errno {
	return checks.First(
		checks.Range(p.Y, 0, inCell*(rows-1)),
		checks.Range(p.X, 0, inCell*(columns-1)),
	)
}

// at returns the value of a field at a place, both without errors, in 256ths.
func at(field [][]float32, p Place) int {
	values := around(field, p)
	if first := values[0]; values == [4]float32{first, first, first, first} {
		return inValue * sixteenths(first)
	}
	y, x := p.Y%inCell, p.X%inCell
	shares := [4]int{(inCell - y) * (inCell - x), (inCell - y) * x, y * (inCell - x), y * x}
	sum := 0
	for i, value := range values {
		sum += shares[i] * sixteenths(value)
	}
	return sum
}

// around returns the four values around a place: that of its row and column, of the next column, of the next row, and of both.
func around(field [][]float32, p Place) [4]float32 {
	row, column := p.Y/inCell, p.X/inCell
	// Where there is no next row or column, it has no share: then any value will do.
	below := min(row+1, len(field)-1)
	right := min(column+1, len(field[row])-1)
	return [4]float32{field[row][column], field[row][right], field[below][column], field[below][right]}
}

// sixteenths returns 16 times a level, which is an integer.
func sixteenths(level float32) int {
	return int(level * gauge.Unit)
}
