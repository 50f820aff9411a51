package closing

import (
	"strings"

	"tideway/api"
	"tideway/lists"
	"tideway/texts"
)

// The first word of lines, and the number of digits that integers may have.
const (
	phaseLine = "phase"
	maxDigits = 9
)

func (p Phase) line() string {
	return phaseLine + " " + p.Name + texts.Numbered(p.Least, p.Most) + texts.Numbered(p.Before...) + "\n"
}

// Print returns the text of a plan.
func Print(l []Phase) (string, api.Errno) {
	if e := CheckPlan(l); e != api.OK {
		return "", e
	}
	return strings.Join(lists.Transform(l, Phase.line), ""), api.OK
}

// Parse returns the plan of a text, and the index of the first line that is wrong.
func Parse(s string) ([]Phase, int, api.Errno) {
	return texts.Parse(s, api.MaxLog, read, CheckPlan)
}

// read adds the phase of a line to a plan, and reports whether the line has its form.
func read(l *[]Phase, line string) bool {
	words, ended := texts.Read(line)
	next := words.Next
	first := next()
	name := next()
	integers, ok := texts.Left(words, maxDigits, texts.Unsigned)
	if !ended || first != phaseLine || name == "" || !ok || len(integers) < 2 {
		return false
	}
	*l = append(*l, Phase{Name: name, Least: integers[0], Most: integers[1], Before: integers[2:]})
	return true
}
