package tide

import (
	"strings"

	"tideway/api"
	"tideway/texts"
)

// The first words of lines, and the number of digits that integers may have.
const (
	tideLine        = "tide"
	constituentLine = "constituent"
	maxDigits       = 15
)

// Print returns the text of a tide.
func Print(t Tide) (string, api.Errno) {
	if e := CheckTide(t); e != api.OK {
		return "", e
	}
	var out strings.Builder
	out.WriteString(tideLine + texts.Numbered(t.Den) + "\n")
	for i, c := range t.Constituents {
		a := t.Amplitudes[i]
		out.WriteString(constituentLine + " " + c.Name + texts.Numbered(c.Length, c.Step, a.Re, a.Im) + "\n")
	}
	return out.String(), api.OK
}

// Parse returns the tide with a text, or the index of the first line that is wrong.
func Parse(s string) (Tide, int, api.Errno) {
	if s == "" {
		return Tide{}, 0, api.ErrSyntax
	}
	kind := lineKind{first: tideLine, read: readDen}
	read := func(t *Tide, line string) bool {
		expected := kind
		kind = lineKind{first: constituentLine, read: readConstituent}
		return expected.has(line, t)
	}
	return texts.Parse(s, api.MaxText, read, CheckTide)
}

// lineKind is the first word of a line, and what reads the other ones into a tide, and reports whether they have their form.
type lineKind struct {
	first string
	read  func(next func() string, t *Tide) bool
}

// has reports whether a line is of this kind, which it then adds to a tide.
func (k lineKind) has(line string, t *Tide) bool {
	words, ended := texts.Read(line)
	next := words.Next
	return ended && next() == k.first && k.read(next, t) && words.Done()
}

func readDen(next func() string, t *Tide) bool {
	return texts.Integers(next, maxDigits, &t.Den)
}

func readConstituent(next func() string, t *Tide) bool {
	c := Constituent{Name: next()}
	var a api.Gauss
	if c.Name == "" || !texts.Integers(next, maxDigits, &c.Length, &c.Step, &a.Re, &a.Im) {
		return false
	}
	t.Constituents = append(t.Constituents, c)
	t.Amplitudes = append(t.Amplitudes, a)
	return true
}
