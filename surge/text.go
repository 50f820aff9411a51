package surge

import (
	"strings"

	"tideway/api"
	"tideway/gauge"
	"tideway/lists"
	"tideway/texts"
)

// The first word of a line, and the number of digits that integers may have.
const (
	pieceLine = "piece"
	maxDigits = 9
)

// Print returns the text of a store.
func Print(d Domain, l []Piece) (string, api.Errno) {
	if e := CheckStore(d, l); e != api.OK {
		return "", e
	}
	var out strings.Builder
	for _, p := range l {
		values := lists.Transform(p.Values, sixteenths)
		out.WriteString(pieceLine + texts.Numbered(p.Run) + " " + p.Member + texts.Numbered(p.Tick, p.Row) + texts.Numbered(values...) + "\n")
	}
	return out.String(), api.OK
}

// Parse returns the store of a text, and the index of the first line that is wrong.
func Parse(d Domain, s string) ([]Piece, int, api.Errno) {
	if e := CheckDomain(d); e != api.OK {
		return nil, 0, e
	}
	return texts.Parse(s, api.MaxLog, readLine, func(l []Piece) api.Errno { return CheckStore(d, l) })
}

// readLine adds the piece of a line, and reports whether the line has its form.
func readLine(l *[]Piece, line string) bool {
	p, ok := readPiece(line)
	*l = append(*l, p)
	return ok
}

// readPiece returns the piece of a line, and whether it has its form.
func readPiece(line string) (Piece, bool) {
	words, ended := texts.Read(line)
	next := words.Next
	first := next()
	run, isRun := texts.Unsigned(next(), maxDigits)
	member := next()
	tick, isTick := texts.Unsigned(next(), maxDigits)
	row, isRow := texts.Unsigned(next(), maxDigits)
	if !ended || first != pieceLine || !isRun || member == "" || !isTick || !isRow {
		return Piece{}, false
	}
	values, ok := texts.Left(words, maxDigits, texts.Integer)
	// What is above the greatest level stays above it if it is rounded: CheckLevel finds it.
	level := func(n int) float32 { return float32(n) / gauge.Unit }
	return Piece{Run: run, Member: member, Tick: tick, Row: row, Values: lists.Transform(values, level)}, ok
}
