package fault

import (
	"slices"
	"strings"

	"tideway/api"
	"tideway/lists"
	"tideway/texts"
)

// The first words of lines, and the number of digits that integers may have.
const (
	basicLine = "basic"
	causeLine = "cause"
	gateLine  = "gate"
	maxDigits = 9
)

// Print returns the text of a tree.
func Print(t Tree) (string, api.Errno) {
	if e := CheckTree(t); e != api.OK {
		return "", e
	}
	basics := lists.Transform(t.Basics, func(b Basic) string { return line(basicLine, b.Name, b.Chance) })
	causes := lists.Transform(t.Causes, func(c Cause) string { return line(causeLine, c.Name, c.Chance, c.Members...) })
	gates := lists.Transform(t.Gates, func(g Gate) string { return line(gateLine, g.Kind, g.Need, g.Inputs...) })
	return strings.Join(slices.Concat(basics, causes, gates), ""), api.OK
}

// line returns a line of two words and at least one integer.
func line(first, second string, integer int, more ...int) string {
	return first + " " + second + texts.Numbered(integer) + texts.Numbered(more...) + "\n"
}

// Parse returns the tree with a text, or the index of the first line that is wrong.
func Parse(s string) (Tree, int, api.Errno) {
	return texts.Parse(s, api.MaxText, (*Tree).read, CheckTree)
}

// read adds the basic event, the cause or the gate of a line, and reports whether the line has its form, and its place.
func (t *Tree) read(line string) bool {
	words, ended := texts.Read(line)
	next := words.Next
	first := next()
	second := next()
	integers, ok := texts.Left(words, maxDigits, texts.Unsigned)
	if !ended || second == "" || !ok || len(integers) == 0 {
		return false
	}
	integer, more := integers[0], integers[1:]
	switch first {
	case basicLine:
		t.Basics = append(t.Basics, Basic{Name: second, Chance: integer})
		return len(more) == 0 && len(t.Causes) == 0 && len(t.Gates) == 0
	case causeLine:
		t.Causes = append(t.Causes, Cause{Name: second, Chance: integer, Members: more})
		return len(t.Gates) == 0
	case gateLine:
		t.Gates = append(t.Gates, Gate{Kind: second, Need: integer, Inputs: more})
		return true
	}
	return false
}
