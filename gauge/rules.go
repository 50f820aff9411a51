package gauge

import (
	"tideway/api"
	"tideway/checks"
)

// kind is what all rules of a kind have in common.
type kind struct {
	check   func(x Rule) api.Errno       // the error of both numbers
	removes func(x Rule, r Record) []int // the indices whose levels the rule removes, ascending
}

// kinds returns the kinds of rules by their names.
func kinds() map[string]kind {
	return map[string]kind{
		"range": {check: checkRange, removes: outside},
		"jump":  {check: checkJump, removes: jumps},
		"stuck": {check: checkStuck, removes: stuck},
	}
}

func checkRange(x Rule) api.Errno {
	return checks.First(checks.Range(x.A, -maxHeight, maxHeight), checks.Range(x.B, x.A, maxHeight))
}

func checkJump(x Rule) api.Errno {
	return checks.First(checks.Range(x.A, 0, maxStep), checks.Range(x.B, 0, 0))
}

func checkStuck(x Rule) api.Errno {
	return checks.First(checks.Range(x.A, 1, api.MaxRecord), checks.Range(x.B, 0, 0))
}

// outside returns the indices of the levels below A or above B.
func outside(x Rule, r Record) []int {
	var out []int
	for i, level := range recorded(r) {
		if n := sixteenths(level); n < x.A || n > x.B {
			out = append(out, i)
		}
	}
	return out
}

// jumps returns the indices of the levels that differ by more than A from the one before.
func jumps(x Rule, r Record) []int {
	var out []int
	next, before := -1, float32(0)
	for i, level := range recorded(r) {
		if i == next && distance(level, before) > x.A {
			// next stays, so that the level behind this one is compared with none.
			out = append(out, i)
			continue
		}
		next, before = i+1, level
	}
	return out
}

// stuck returns the indices of the levels with A equal ones before them.
func stuck(x Rule, r Record) []int {
	var out []int
	next, before, equal := -1, float32(0), 0
	for i, level := range recorded(r) {
		if i == next && level == before {
			equal++
		} else {
			equal = 0
		}
		if equal >= x.A {
			out = append(out, i)
		}
		next, before = i+1, level
	}
	return out
}

// CheckRules returns the first error of rules, or OK.
func CheckRules(l []Rule) api.Errno {
	if len(l) > MaxRules {
		return api.ErrMany
	}
	table := kinds()
	return checks.Each(l, func(x Rule) api.Errno {
		k, found := table[x.Kind]
		if !found {
			return api.ErrKind
		}
		return k.check(x)
	})
}

// Reasons returns for each index the number of the rule that removes its level, or 0.
func Reasons(r Record, l []Rule) ([]int, api.Errno) {
	_, reasons, e := apply(r, l)
	return reasons, e
}

// Clean returns the cleaned record.
func Clean(r Record, l []Rule) (Record, api.Errno) {
	left, _, e := apply(r, l)
	return left, e
}

// apply returns what rules leave of a record, and the reasons of its indices.
func apply(r Record, l []Rule) (Record, []int, api.Errno) {
	if e := checks.First(CheckRecord(r), CheckRules(l)); e != api.OK {
		return Record{}, nil, e
	}
	table := kinds()
	reasons := make([]int, len(r.Levels))
	left := without(r, nil)
	for n, x := range l {
		removed := table[x.Kind].removes(x, left)
		for _, i := range removed {
			reasons[i] = n + 1
		}
		left = without(left, removed)
	}
	return left, reasons, api.OK
}

// without returns a copy of a record with these indices in gaps, too.
func without(r Record, indices []int) Record {
	marked := known(r)
	for _, i := range indices {
		marked[i] = false
	}
	return assemble(r.Name, r.Start, r.Levels, marked)
}
