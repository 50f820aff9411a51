package safety

import (
	"slices"
	"strings"

	"tideway/api"
	"tideway/lists"
	"tideway/texts"
)

// The first words of lines, the kinds of claims, and the number of digits that integers may have.
const (
	versionLine  = "version"
	evidenceLine = "evidence"
	claimLine    = "claim"
	allKind      = "all"
	anyKind      = "any"
	maxDigits    = 9
)

// Print returns the text of a case.
func Print(c Case) (string, api.Errno) {
	if e := CheckCase(c); e != api.OK {
		return "", e
	}
	versions := lists.Transform(c.Versions, func(v Version) string { return line(versionLine, v.words()) })
	evidence := lists.Transform(c.Evidence, Evidence.line)
	claims := lists.Transform(c.Claims, Claim.line)
	out := strings.Join(slices.Concat(versions, evidence, claims), "")
	if len(out) > api.MaxText {
		return "", api.ErrLong
	}
	return out, api.OK
}

// line returns a line of words.
func line(words ...string) string {
	return strings.Join(words, " ") + "\n"
}

func (v Version) words() string {
	return v.Thing + texts.Numbered(v.Number)
}

func (x Evidence) line() string {
	words := []string{evidenceLine, x.Name}
	return line(append(words, lists.Transform(x.With, Version.words)...)...)
}

func (x Claim) line() string {
	words := []string{claimLine, x.Name, allKind}
	if x.Any {
		words[2] = anyKind
	}
	return line(append(words, x.Uses...)...)
}

// Parse returns the case of a text, and the index of the first line that is wrong.
func Parse(s string) (Case, int, api.Errno) {
	return texts.Parse(s, api.MaxText, (*Case).read, CheckCase)
}

// read adds the version, the evidence or the claim of a line, and reports whether the line has its form, and its place.
func (c *Case) read(line string) bool {
	words, ended := texts.Read(line)
	next := words.Next
	first := next()
	name := next()
	if !ended || name == "" {
		return false
	}
	switch first {
	case versionLine:
		v, ok := readVersion(name, next)
		c.Versions = append(c.Versions, v)
		return ok && words.Done() && len(c.Evidence) == 0 && len(c.Claims) == 0
	case evidenceLine:
		with, ok := readWith(words)
		c.Evidence = append(c.Evidence, Evidence{Name: name, With: with})
		return ok && len(c.Claims) == 0
	case claimLine:
		kind := next()
		uses, ok := readUses(words)
		c.Claims = append(c.Claims, Claim{Name: name, Any: kind == anyKind, Uses: uses})
		return ok && (kind == allKind || kind == anyKind)
	}
	return false
}

// readVersion takes the number of a version of a thing, and reports whether both have their form.
func readVersion(thing string, next func() string) (Version, bool) {
	number, ok := texts.Unsigned(next(), maxDigits)
	return Version{Thing: thing, Number: number}, ok && thing != ""
}

// readWith takes the versions that are left of a line, and reports whether all of them have their form.
func readWith(words *texts.Words) ([]Version, bool) {
	next := words.Next
	var out []Version
	for !words.Done() {
		thing := next()
		v, ok := readVersion(thing, next)
		if !ok {
			return nil, false
		}
		out = append(out, v)
	}
	return out, true
}

// readUses takes the words that are left of a line, and reports whether each of them has a byte.
func readUses(words *texts.Words) ([]string, bool) {
	var out []string
	for !words.Done() {
		word := words.Next()
		if word == "" {
			return nil, false
		}
		out = append(out, word)
	}
	return out, true
}
