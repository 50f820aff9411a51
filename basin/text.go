package basin

import (
	"strings"

	"tideway/api"
	"tideway/texts"
)

// The first word of the line of a node, and the number of digits that integers may have.
const (
	nodeLine  = "node"
	maxDigits = 9
)

// Print returns the text of a basin.
func Print(b Basin) (string, api.Errno) {
	if e := CheckBasin(b); e != api.OK {
		return "", e
	}
	var out strings.Builder
	for _, n := range b.Nodes {
		out.WriteString(nodeLine + " " + n.Name + texts.Numbered(n.Area, n.Limit) + "\n")
	}
	for _, l := range b.Links {
		out.WriteString(l.Kind + texts.Numbered(l.From, l.To, l.At, l.Rate) + "\n")
	}
	return out.String(), api.OK
}

// Parse returns the basin of a text, and the index of the first line that is wrong.
func Parse(s string) (Basin, int, api.Errno) {
	return texts.Parse(s, api.MaxText, (*Basin).read, CheckBasin)
}

// read adds the node or the link of a line, and reports whether the line has its form.
func (b *Basin) read(line string) bool {
	words, ended := texts.Read(line)
	next := words.Next
	first := next()
	if first == nodeLine {
		return ended && b.readNode(next) && words.Done()
	}
	return ended && first != "" && b.readLink(first, next) && words.Done()
}

// readNode adds a node, which stands before all links.
func (b *Basin) readNode(next func() string) bool {
	n := Node{Name: next()}
	ok := texts.Integers(next, maxDigits, &n.Area, &n.Limit)
	b.Nodes = append(b.Nodes, n)
	return ok && n.Name != "" && len(b.Links) == 0
}

func (b *Basin) readLink(kind string, next func() string) bool {
	l := Link{Kind: kind}
	ok := texts.Integers(next, maxDigits, &l.From, &l.To, &l.At, &l.Rate)
	b.Links = append(b.Links, l)
	return ok
}
