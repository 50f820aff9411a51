package safety

import (
	"slices"

	"tideway/api"
	"tideway/checks"
	"tideway/lists"
)

func (v Version) thing() string {
	return v.Thing
}

func (x Evidence) name() string {
	return x.Name
}

func (x Claim) name() string {
	return x.Name
}

// isValid reports whether all versions with which evidence was found are the present ones.
func (c Case) isValid(x Evidence) bool {
	isPast := func(v Version) bool { return !slices.Contains(c.Versions, v) }
	return !slices.ContainsFunc(x.With, isPast)
}

// valid returns the names of the valid evidence.
func (c Case) valid() []string {
	return lists.Transform(lists.Chosen(c.Evidence, c.isValid), Evidence.name)
}

// invalid returns the names of the evidence that is not valid.
func (c Case) invalid() []string {
	isInvalid := func(x Evidence) bool { return !c.isValid(x) }
	return lists.Transform(lists.Chosen(c.Evidence, isInvalid), Evidence.name)
}

// isProved reports whether a claim holds by what is proved of that on which it rests.
func (x Claim) isProved(proved map[string]bool) bool {
	for _, name := range x.Uses {
		// One that is proved decides for any of them, one that is not for all.
		if proved[name] == x.Any {
			return x.Any
		}
	}
	return !x.Any
}

// proved returns what holds by some evidence: this evidence, and claims.
func (c Case) proved(evidence []string) map[string]bool {
	out := map[string]bool{}
	for _, name := range evidence {
		out[name] = true
	}
	// All claims that a claim uses come before it.
	for _, x := range c.Claims {
		out[x.Name] = x.isProved(out)
	}
	return out
}

// clone returns a case that shares no memory with another one.
func (c Case) clone() Case {
	return Case{
		Versions: slices.Clone(c.Versions),
		Evidence: lists.Transform(c.Evidence, func(x Evidence) Evidence {
			x.With = slices.Clone(x.With)
			return x
		}),
		Claims: lists.Transform(c.Claims, func(x Claim) Claim {
			x.Uses = slices.Clone(x.Uses)
			return x
		}),
	}
}

// changed returns a case with another number as the version of a thing.
func (c Case) changed(thing string, number int) Case {
	out := c.clone()
	out.Versions[c.things()[thing]].Number = number
	return out
}

// things returns the indices of the versions by their things.
func (c Case) things() map[string]int {
	return lists.Indices(c.Versions, Version.thing)
}

// checkClaim returns the first error of a case and the name of a claim, or OK.
func checkClaim(c Case, claim string) api.Errno {
	return checks.First(CheckCase(c), checks.Known(lists.Indices(c.Claims, Claim.name), claim))
}

// checkChange returns the first error of a case, a thing and a number, or OK.
func checkChange(c Case, thing string, number int) api.Errno {
	return checks.First(CheckCase(c), checks.Known(c.things(), thing), checkNumber(number))
}

// Fresh returns the evidence that is valid for the present versions.
func Fresh(c Case) ([]string, api.Errno) {
	if e := CheckCase(c); e != api.OK {
		return nil, e
	}
	return c.valid(), api.OK
}

// Holds reports whether a claim holds.
func Holds(c Case, claim string) (bool, api.Errno) {
	if e := checkClaim(c, claim); e != api.OK {
		return false, e
	}
	return c.proved(c.valid())[claim], api.OK
}

// Open returns the claims that do not hold.
func Open(c Case) ([]string, api.Errno) {
	if e := CheckCase(c); e != api.OK {
		return nil, e
	}
	proved := c.proved(c.valid())
	open := lists.Chosen(c.Claims, func(x Claim) bool { return !proved[x.Name] })
	return lists.Transform(open, Claim.name), api.OK
}

// Change returns a case with another version of a thing.
func Change(c Case, thing string, number int) (Case, api.Errno) {
	if e := checkChange(c, thing, number); e != api.OK {
		return Case{}, e
	}
	return c.changed(thing, number), api.OK
}

// Reopened returns the claims that hold, and do not any more with another version.
func Reopened(c Case, thing string, number int) ([]string, api.Errno) {
	if e := checkChange(c, thing, number); e != api.OK {
		return nil, e
	}
	changed := c.changed(thing, number)
	before, after := c.proved(c.valid()), changed.proved(changed.valid())
	reopened := lists.Chosen(c.Claims, func(x Claim) bool { return before[x.Name] && !after[x.Name] })
	return lists.Transform(reopened, Claim.name), api.OK
}

// Renew returns a case in which some evidence was found again with the present versions.
func Renew(c Case, evidence string) (Case, api.Errno) {
	pieces := lists.Indices(c.Evidence, Evidence.name)
	if e := checks.First(CheckCase(c), checks.Known(pieces, evidence)); e != api.OK {
		return Case{}, e
	}
	out := c.clone()
	things := c.things()
	with := out.Evidence[pieces[evidence]].With
	for i, v := range with {
		with[i] = c.Versions[things[v.Thing]]
	}
	return out, api.OK
}
