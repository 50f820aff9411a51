package tide

import (
	"tideway/api"
	"tideway/gauge"
	"tideway/lists"
)

// Normal returns the normal matrix of constituents on the recorded ticks.
func Normal(r gauge.Record, l []Constituent) ([][]api.Gauss, api.Errno) {
	if e := checkBoth(r, l); e != api.OK {
		return nil, e
	}
	return normal(r, l), api.OK
}

func normal(r gauge.Record, l []Constituent) [][]api.Gauss {
	return lists.Transform(l, func(row Constituent) []api.Gauss {
		return lists.Transform(l, func(column Constituent) api.Gauss {
			return project(r, row, func(tick, _ int) api.Gauss { return column.at(tick) })
		})
	})
}

// levelSums returns the sums of the conjugates of the characters times the recorded levels.
func levelSums(r gauge.Record, l []Constituent) []api.Gauss {
	return lists.Transform(l, func(c Constituent) api.Gauss {
		return project(r, c, func(_, level int) api.Gauss { return api.Gauss{Re: level} })
	})
}

// project returns the sum, over all recorded ticks, of the conjugates of the characters times other numbers.
func project(r gauge.Record, c Constituent, number func(tick, level int) api.Gauss) api.Gauss {
	var sum api.Gauss
	for tick, level := range recorded(r) {
		sum = plus(sum, times(conjugate(c.at(tick)), number(tick, level)))
	}
	return sum
}

// Determinant returns the determinant of the normal matrix.
func Determinant(r gauge.Record, l []Constituent) (int, api.Errno) {
	if e := checkBoth(r, l); e != api.OK {
		return 0, e
	}
	return determinant(normal(r, l)).Re, api.OK
}

// Rank returns how many constituents are independent.
func Rank(r gauge.Record, l []Constituent) (int, api.Errno) {
	if e := checkBoth(r, l); e != api.OK {
		return 0, e
	}
	// Independent ones that no other one can join are as many as there can be, whichever were taken first.
	var taken []Constituent
	for _, c := range l {
		if more := append(taken, c); firstDependent(normal(r, more)) == len(more) {
			taken = more
		}
	}
	return len(taken), api.OK
}

// Alike returns the pairs of constituents that a record cannot tell apart.
func Alike(r gauge.Record, l []Constituent) ([][2]int, api.Errno) {
	if e := checkBoth(r, l); e != api.OK {
		return nil, e
	}
	count := len(ticks(r))
	m := normal(r, l)
	var out [][2]int
	for first := range len(l) {
		for second := first + 1; second < len(l); second++ {
			if square(m[first][second]) == count*count {
				out = append(out, [2]int{first, second})
			}
		}
	}
	return out, api.OK
}
