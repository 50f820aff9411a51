package safety

import (
	"slices"

	"tideway/api"
	"tideway/checks"
	"tideway/lists"
)

// proof returns whether a claim holds by some evidence.
func (c Case) proof(claim string) func(evidence []string) bool {
	return func(evidence []string) bool {
		return c.proved(evidence)[claim]
	}
}

// without returns names, but one of them.
func without(names []string, name string) []string {
	return lists.Chosen(names, func(other string) bool { return other != name })
}

// least leaves out each one of names, from the last one to the first one, if the rest is enough.
func least(names []string, isEnough func(rest []string) bool) []string {
	out := names
	for _, name := range slices.Backward(names) {
		if rest := without(out, name); isEnough(rest) {
			out = rest
		}
	}
	return out
}

// checkHolds returns the first error of a case and the name of a claim, or the given one if the claim does not hold, or is not open, as it is wanted.
func checkHolds(c Case, claim string, wanted bool, unwanted api.Errno) api.Errno {
	holds, e := Holds(c, claim)
	return checks.First(e, checks.Unless(holds == wanted, unwanted))
}

// checkPieces returns the error of the first one of names of evidence, in the order of the case, with one, or OK.
func (c Case) checkPieces(l []string) api.Errno {
	pieces := lists.Indices(c.Evidence, Evidence.name)
	ascends := checks.Ascending[int]()
	return checks.Each(l, func(name string) api.Errno {
		return checks.First(checks.Known(pieces, name), ascends(pieces[name]))
	})
}

// isSupport reports whether a claim holds by evidence that is valid, and by nothing less.
func (c Case) isSupport(claim string, evidence []string) bool {
	holds, valid := c.proof(claim), c.valid()
	isInvalid := func(name string) bool { return !slices.Contains(valid, name) }
	isSpare := func(name string) bool { return holds(without(evidence, name)) }
	return holds(evidence) && !slices.ContainsFunc(evidence, isInvalid) && !slices.ContainsFunc(evidence, isSpare)
}

// Support returns evidence on which a claim rests.
func Support(c Case, claim string) ([]string, api.Errno) {
	if e := checkHolds(c, claim, true, api.ErrOpen); e != api.OK {
		return nil, e
	}
	return least(c.valid(), c.proof(claim)), api.OK
}

// CheckSupport returns OK for evidence on which a claim rests, none of which can be left out.
func CheckSupport(c Case, claim string, l []string) api.Errno {
	if e := checks.First(checkClaim(c, claim), c.checkPieces(l)); e != api.OK {
		return e
	}
	return checks.Unless(c.isSupport(claim, l), api.ErrProof)
}

// Needed returns the evidence without which a claim does not hold.
func Needed(c Case, claim string) ([]string, api.Errno) {
	if e := checkHolds(c, claim, true, api.ErrOpen); e != api.OK {
		return nil, e
	}
	holds, valid := c.proof(claim), c.valid()
	return lists.Chosen(valid, func(name string) bool { return !holds(without(valid, name)) }), api.OK
}

// Lacks returns evidence that would make an open claim hold, if it was valid.
func Lacks(c Case, claim string) ([]string, api.Errno) {
	if e := checkHolds(c, claim, false, api.ErrNone); e != api.OK {
		return nil, e
	}
	holds, valid := c.proof(claim), c.valid()
	return least(c.invalid(), func(rest []string) bool { return holds(slices.Concat(valid, rest)) }), api.OK
}
