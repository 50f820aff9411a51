package gauge

import (
	"strconv"
	"strings"

	"tideway/api"
	"tideway/checks"
	"tideway/texts"
)

// The first word of a text, the line of a gap, and the number of digits that integers may have.
const (
	heading   = "gauge"
	gapLine   = "-"
	maxDigits = 9
)

// Print returns the text of a record.
func Print(r Record) (string, api.Errno) {
	if e := CheckRecord(r); e != api.OK {
		return "", e
	}
	var out strings.Builder
	out.WriteString(heading + " " + r.Name + " " + strconv.Itoa(r.Start) + "\n")
	for i, is := range known(r) {
		word := gapLine
		if is {
			word = strconv.Itoa(sixteenths(r.Levels[i]))
		}
		out.WriteString(word + "\n")
	}
	return out.String(), api.OK
}

// Parse returns the record of a text, and the index of the first line that is wrong.
func Parse(s string) (Record, int, api.Errno) {
	if e := checks.First(checks.Unless(len(s) <= api.MaxLog, api.ErrLong), checks.Unless(s != "", api.ErrSyntax)); e != api.OK {
		return Record{}, 0, e
	}
	lines := texts.Lines(s)
	r, wrong := readRecord(lines)
	if wrong < len(lines) {
		return Record{}, wrong, api.ErrSyntax
	}
	if e := CheckRecord(r); e != api.OK {
		return Record{}, len(lines), e
	}
	return r, 0, api.OK
}

// readRecord returns the record of at least one line, and the index of the first line that is wrong: their number if none is.
func readRecord(lines []string) (Record, int) {
	name, start, ok := readHeading(lines[0])
	if !ok {
		return Record{}, 0
	}
	levels := make([]float32, len(lines)-1)
	marked := make([]bool, len(lines)-1)
	for i, line := range lines[1:] {
		level, recorded, ok := readLevel(line)
		if !ok {
			return Record{}, i + 1
		}
		levels[i], marked[i] = level, recorded
	}
	return assemble(name, start, levels, marked), len(lines)
}

// readHeading returns the name and the start of the first line, and whether it has its form.
func readHeading(line string) (string, int, bool) {
	words, ended := texts.Read(line)
	next := words.Next
	first := next()
	name := next()
	start, isStart := texts.Unsigned(next(), maxDigits)
	return name, start, ended && first == heading && name != "" && isStart && words.Done()
}

// readLevel returns the level of a line, whether it is recorded, and whether the line has its form.
func readLevel(line string) (float32, bool, bool) {
	words, ended := texts.Read(line)
	word := words.Next()
	if !ended || !words.Done() {
		return 0, false, false
	}
	if word == gapLine {
		return 0, false, true
	}
	n, ok := texts.Integer(word, maxDigits)
	// What is above the limit stays above it if it is rounded: CheckLevel finds it.
	return float32(n) / Unit, true, ok
}
