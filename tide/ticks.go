package tide

import (
	"iter"

	"tideway/api"
	"tideway/checks"
	"tideway/gauge"
)

// Character returns the character of a constituent at a tick.
func Character(c Constituent, tick int) (api.Gauss, api.Errno) {
	if e := checks.First(CheckConstituents([]Constituent{c}), checks.Range(tick, 0, api.MaxTime)); e != api.OK {
		return api.Gauss{}, e
	}
	return c.at(tick), api.OK
}

// at returns the character at a tick: at any one, since the last ticks of a record may be above MaxTime.
func (c Constituent) at(tick int) api.Gauss {
	return quarters[c.Step*(tick/c.Length)%len(quarters)]
}

// Ticks returns the recorded ticks of a record.
func Ticks(r gauge.Record) ([]int, api.Errno) {
	if e := gauge.CheckRecord(r); e != api.OK {
		return nil, e
	}
	return ticks(r), api.OK
}

func ticks(r gauge.Record) []int {
	var out []int
	for tick := range recorded(r) {
		out = append(out, tick)
	}
	return out
}

// recorded visits the recorded ticks, ascending, with the recorded levels there.
func recorded(r gauge.Record) iter.Seq2[int, int] {
	return func(yield func(tick, level int) bool) {
		gaps := r.Gaps
		for i, x := range r.Levels {
			// Two gaps never touch: the next one begins later.
			if len(gaps) > 0 && gaps[0].To == i {
				gaps = gaps[1:]
			}
			if len(gaps) > 0 && gaps[0].From <= i {
				continue
			}
			if !yield(r.Start+i, int(x*gauge.Unit)) {
				return
			}
		}
	}
}

// checkRecord returns the first error of a record that is to be analysed, or OK.
func checkRecord(r gauge.Record) api.Errno {
	if e := gauge.CheckRecord(r); e != api.OK {
		return e
	}
	return checks.Most(len(ticks(r)), MaxTicks)
}

// checkBoth returns the first error of a record that is to be analysed by constituents, or OK.
func checkBoth(r gauge.Record, l []Constituent) api.Errno {
	return checks.First(checkRecord(r), CheckConstituents(l))
}
