package policy

import (
	"slices"
	"strconv"
	"strings"

	"tideway/api"
	"tideway/checks"
	"tideway/lists"
	"tideway/texts"
)

// The last words of the lines of rules, and their indices.
var actions = [2]string{"open", "close"}

const (
	openAction  = 0
	closeAction = 1
)

// checkText returns the first error of a policy that belongs to no season, or OK.
func checkText(p Policy) api.Errno {
	return checks.First(
		checks.Most(len(p.Rules), MaxTides*MaxMembers),
		checks.Each(p.Rules, func(r Rule) api.Errno {
			return checks.First(checks.Count(len(r.Classes), MaxTides), checks.Each(r.Classes, checkClass))
		}),
	)
}

func (r Rule) action() string {
	if r.Close {
		return actions[closeAction]
	}
	return actions[openAction]
}

func (r Rule) line() string {
	classes := lists.Transform(r.Classes, strconv.Itoa)
	return strings.Join(append(classes, r.action()), " ") + "\n"
}

// Print returns the text of a policy.
func Print(p Policy) (string, api.Errno) {
	if e := checkText(p); e != api.OK {
		return "", e
	}
	return strings.Join(lists.Transform(p.Rules, Rule.line), ""), api.OK
}

// Parse returns the policy of a text, and the index of the first line that is wrong.
func Parse(s string) (Policy, int, api.Errno) {
	return texts.Parse(s, api.MaxText, (*Policy).read, checkText)
}

// read adds the rule of a line, and reports whether the line has its form: all its words but the last one are digits.
func (p *Policy) read(line string) bool {
	words, ended := texts.Read(line)
	next := words.Next
	var out Rule
	word := next()
	for !words.Done() {
		class, ok := texts.Unsigned(word, 1)
		if !ok {
			return false
		}
		out.Classes = append(out.Classes, class)
		word = next()
	}
	action := slices.Index(actions[:], word)
	out.Close = action == closeAction
	p.Rules = append(p.Rules, out)
	return ended && action >= 0
}
