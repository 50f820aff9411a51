package tide_test

import (
	"fmt"
	"math/rand"
	"reflect"
	"strings"
	"testing"

	"tideway/api"
	"tideway/gauge"
	"tideway/tide"
)

// want compares what results print as: so nil and empty lists are equal.
func want(t *testing.T, what string, got, wanted any) {
	t.Helper()
	if g, w := fmt.Sprintf("%+v", got), fmt.Sprintf("%+v", wanted); g != w {
		t.Errorf("%s: got %s, want %s", what, g, w)
	}
}

// wantError reports an error that is not the wanted one, and a result beside an error that is not zero.
func wantError(t *testing.T, what string, got any, e, wanted api.Errno) {
	t.Helper()
	want(t, "error of "+what, e, wanted)
	if e != api.OK {
		want(t, what+" beside an error", got, reflect.Zero(reflect.TypeOf(got)).Interface())
	}
}

// one returns a constituent, and letters those of the chapter's examples.
func one(name string, length, step int) tide.Constituent {
	return tide.Constituent{Name: name, Length: length, Step: step}
}

func letters(names string) []tide.Constituent {
	known := map[rune]tide.Constituent{'Z': one("Z", 1, 0), 'H': one("H", 1, 2), 'Q': one("Q", 1, 1), 'R': one("R", 1, 3), 'S': one("S", 2, 2)}
	var out []tide.Constituent
	for _, c := range names {
		out = append(out, known[c])
	}
	return out
}

// record returns the record at a start with these words: levels in sixteenths, or `-` in a gap.
func record(start int, words string) gauge.Record {
	text := fmt.Sprintf("gauge a %d\n", start)
	for _, word := range strings.Fields(words) {
		text += word + "\n"
	}
	r, _, e := gauge.Parse(text)
	if e != api.OK {
		panic(fmt.Sprintf("record %q: error %d", words, e))
	}
	return r
}

// g is the record G of the chapter's examples.
func g() gauge.Record {
	return record(0, "16 0 -16 0")
}

// gs returns complex integers by both parts.
func gs(parts ...int) []api.Gauss {
	var out []api.Gauss
	for i := 0; i+1 < len(parts); i += 2 {
		out = append(out, api.Gauss{Re: parts[i], Im: parts[i+1]})
	}
	return out
}

// single returns the tide of Z alone, with the amplitude re + i im.
func single(den, re, im int) tide.Tide {
	return tide.Tide{Constituents: letters("Z"), Amplitudes: gs(re, im), Den: den}
}

// badRecords returns records by their first errors, and constituents that are wrong for all of them.
func badRecords() map[api.Errno]gauge.Record {
	return map[api.Errno]gauge.Record{
		api.ErrName:  {Name: "9", Start: -1, Levels: []float32{65}},
		api.ErrRange: {Name: "a", Start: -1, Levels: make([]float32, 4097)},
		api.ErrForm:  {Name: "a", Levels: []float32{1}, Gaps: []api.Span{{From: 0, To: 1}}},
		api.ErrSpan:  {Name: "a", Levels: make([]float32, 200), Gaps: []api.Span{{From: 0, To: 201}}},
		api.ErrOrder: {Name: "a", Levels: make([]float32, 200), Gaps: []api.Span{{From: 1, To: 2}, {From: 0, To: 1}}},
	}
}

// badList is constituents with their first error.
type badList struct {
	l []tide.Constituent
	e api.Errno
}

func badLists() []badList {
	return []badList{
		{nil, api.ErrEmpty},
		{make([]tide.Constituent, 5), api.ErrMany},
		{letters("ZHQRS"), api.ErrMany},
		{[]tide.Constituent{{}}, api.ErrName},
		{[]tide.Constituent{one("9", 0, 4)}, api.ErrName},
		{[]tide.Constituent{one("a b", 1, 0)}, api.ErrName},
		{[]tide.Constituent{one(strings.Repeat("a", 25), 1, 0)}, api.ErrName},
		{[]tide.Constituent{one("9", 1, 0), one("9", 1, 0)}, api.ErrName},
		{[]tide.Constituent{one("a", 0, 0)}, api.ErrRange},
		{[]tide.Constituent{one("a", -1, 0)}, api.ErrRange},
		{[]tide.Constituent{one("a", 97, 0)}, api.ErrRange},
		{[]tide.Constituent{one("a", 1, -1)}, api.ErrRange},
		{[]tide.Constituent{one("a", 1, 4)}, api.ErrRange},
		{[]tide.Constituent{one("a", 1, 4), one("9", 1, 0)}, api.ErrRange},
		{[]tide.Constituent{one("a", 1, 0), one("a", 97, 0)}, api.ErrRange},
		{[]tide.Constituent{one("a", 1, 0), one("a", 1, 4)}, api.ErrRange},
		{[]tide.Constituent{one("a", 1, 0), one("a", 2, 1)}, api.ErrTwice},
		{[]tide.Constituent{one("a", 1, 0), one("a", 2, 1), one("9", 1, 0)}, api.ErrTwice},
		{[]tide.Constituent{one("a", 1, 0), one("b", 2, 1), one("c", 2, 1), one("a", 3, 2)}, api.ErrTwice},
		{[]tide.Constituent{one("a", 1, 0), one("b", 2, 1), one("b", 2, 1)}, api.ErrTwice},
	}
}

// badTide is a tide with its first error.
type badTide struct {
	t tide.Tide
	e api.Errno
}

func badTides() []badTide {
	const den, part = tide.MaxDen, tide.MaxPart
	out := []badTide{
		{tide.Tide{}, api.ErrEmpty},
		{tide.Tide{Constituents: letters("Z"), Den: 0}, api.ErrShape},
		{tide.Tide{Constituents: letters("Z"), Amplitudes: gs(1, 1, 1, 1), Den: 1}, api.ErrShape},
		{tide.Tide{Constituents: letters("ZH"), Amplitudes: gs(1, 1), Den: 1}, api.ErrShape},
		{single(0, part+1, 0), api.ErrRange}, {single(-1, 1, 0), api.ErrRange}, {single(den+1, 1, 0), api.ErrRange},
		{single(1, part+1, 0), api.ErrRange}, {single(1, -part-1, 0), api.ErrRange}, {single(1, 0, part+1), api.ErrRange}, {single(1, 0, -part-1), api.ErrRange},
		{single(2, part+2, 0), api.ErrRange},
		{tide.Tide{Constituents: letters("ZH"), Amplitudes: gs(1, 1, 0, part+1), Den: 1}, api.ErrRange},
		{single(2, 0, 0), api.ErrForm}, {single(2, 2, 4), api.ErrForm}, {single(6, -3, 9), api.ErrForm}, {single(4, 0, 6), api.ErrForm}, {single(den, part, part), api.ErrForm},
		{tide.Tide{Constituents: letters("ZH"), Amplitudes: gs(10, 15, -20, 25), Den: 35}, api.ErrForm},
	}
	for _, bad := range badLists() {
		out = append(out, badTide{tide.Tide{Constituents: bad.l, Amplitudes: gs(part+1, 0), Den: 0}, bad.e})
	}
	return out
}

// randomRecord returns a record with at most 128 recorded ticks; about every gaps-th level is one, if gaps is above 0.
func randomRecord(r *rand.Rand, n, gaps, height int) gauge.Record {
	var words []string
	for range n {
		if gaps > 0 && r.Intn(gaps) == 0 {
			words = append(words, "-")
		} else {
			words = append(words, fmt.Sprint(r.Intn(2*height+1)-height))
		}
	}
	return record(r.Intn(100001), strings.Join(words, " "))
}

// randomCase returns a record and constituents; both that are dependent and that are not come often.
func randomCase(r *rand.Rand) (gauge.Record, []tide.Constituent) {
	longest := []int{1, 2, 4, 12, 96}[r.Intn(5)]
	most := []int{3, 6, 20, 128}[r.Intn(4)]
	return randomRecord(r, r.Intn(most+1), r.Intn(4), 1024), randomConstituents(r, longest)
}

func randomConstituents(r *rand.Rand, longest int) []tide.Constituent {
	var out []tide.Constituent
	for i := range 1 + r.Intn(4) {
		out = append(out, one(string(rune('a'+i)), 1+r.Intn(longest), r.Intn(4)))
	}
	return out
}

// The functions below compute by the definitions of the chapter, with complex128 numbers: all of them are exact, since they stay below 2^53.

// character multiplies by i as often as the definition says.
func character(c tide.Constituent, tick int) complex128 {
	out := complex128(1)
	for range c.Step * (tick / c.Length) % 4 {
		out *= 1i
	}
	return out
}

// observed returns the recorded ticks with the recorded levels.
func observed(r gauge.Record) (ticks, levels []int) {
	for i, x := range r.Levels {
		gap := false
		for _, s := range r.Gaps {
			gap = gap || s.From <= i && i < s.To
		}
		if !gap {
			ticks, levels = append(ticks, r.Start+i), append(levels, int(16*x))
		}
	}
	return ticks, levels
}

func conj(x complex128) complex128 {
	return complex(real(x), -imag(x))
}

// gram returns the normal matrix, and the sums of the conjugates times the recorded levels.
func gram(r gauge.Record, l []tide.Constituent) (m [][]complex128, b []complex128) {
	ticks, levels := observed(r)
	b = make([]complex128, len(l))
	for j, row := range l {
		m = append(m, make([]complex128, len(l)))
		for i, tick := range ticks {
			for k, column := range l {
				m[j][k] += conj(character(row, tick)) * character(column, tick)
			}
			b[j] += conj(character(row, tick)) * complex(float64(levels[i]), 0)
		}
	}
	return m, b
}

// leibniz returns the determinant of the first n rows and columns as a sum over all permutations, with a column replaced if it is not negative.
func leibniz(m [][]complex128, n, column int, by []complex128) complex128 {
	var sum func(row int, used []int) complex128
	sum = func(row int, used []int) complex128 {
		if row == n {
			return 1
		}
		total := complex128(0)
		for k := range n {
			x := m[row][k]
			if k == column {
				x = by[row]
			}
			sign, taken := complex128(1), false
			for _, u := range used {
				taken = taken || u == k
				if u > k {
					sign = -sign
				}
			}
			if !taken {
				total += sign * x * sum(row+1, append(used[:len(used):len(used)], k))
			}
		}
		return total
	}
	return sum(0, nil)
}

func gauss(x complex128) api.Gauss {
	return api.Gauss{Re: int(real(x)), Im: int(imag(x))}
}
