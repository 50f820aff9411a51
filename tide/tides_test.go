package tide_test

import (
	"fmt"
	"math"
	"slices"
	"strings"
	"testing"

	"tideway/api"
	"tideway/tide"
)

// P2.5

// of returns the tide of these constituents by a denominator, with these parts of amplitudes.
func of(l []tide.Constituent, den int, parts ...int) tide.Tide {
	return tide.Tide{Constituents: l, Amplitudes: gs(parts...), Den: den}
}

func TestSum(t *testing.T) {
	a51, b51, c51 := one("a", 5, 1), one("b", 5, 1), one("c", 5, 1)
	a52, c52, a61 := one("a", 5, 2), one("c", 5, 2), one("a", 6, 1)
	type list = []tide.Constituent
	for _, row := range []struct {
		what      string
		a, b, sum tide.Tide
	}{
		{"the same one", single(2, 3, 1), single(3, 1, -1), single(6, 11, 1)},
		{"lowest terms", single(2, 1, 1), single(2, 1, 3), single(1, 1, 2)},
		{"nothing left", single(7, 5, -1), single(7, -5, 1), single(1, 0, 0)},
		{"another one", single(2, 3, 0), of(letters("H"), 3, 1, 1), of(letters("ZH"), 6, 9, 0, 2, 2)},
		{"the first one first", of(letters("H"), 3, 1, 1), single(2, 3, 0), of(letters("HZ"), 6, 2, 2, 9, 0)},
		{"another name", of(list{a51}, 1, 2, 0), of(list{b51}, 1, 3, 1), of(list{a51}, 1, 5, 1)},
		{"another length", of(list{one("b", 6, 1)}, 1, 2, 0), of(list{a51}, 1, 3, 1), of(list{one("b", 6, 1), a51}, 1, 2, 0, 3, 1)},
		{"another step", of(list{b51}, 1, 2, 0), of(list{a52}, 1, 3, 1), of(list{b51, a52}, 1, 2, 0, 3, 1)},
		{"the first one of two", of(list{a51, b51}, 1, 2, 0, 3, 0), of(list{c51}, 1, 4, 1), of(list{a51, b51}, 1, 6, 1, 3, 0)},
		{"the first one of two with its name", of(list{a51, b51}, 1, 2, 0, 3, 0), of(list{b51}, 1, 4, 1), of(list{a51, b51}, 1, 6, 1, 3, 0)},
		{"two to one", of(list{a51}, 1, 2, 0), of(list{b51, c51}, 1, 4, 1, 5, 2), of(list{a51}, 1, 11, 3)},
		{"two that are new", of(list{one("x", 1, 1)}, 1, 2, 0), of(list{b51, c51}, 1, 4, 1, 5, 2), of(list{one("x", 1, 1), b51, c51}, 1, 2, 0, 4, 1, 5, 2)},
		{"a name that is not taken over", of(list{a51, one("b", 6, 1)}, 1, 2, 0, 3, 0), of(list{b51, c52}, 1, 4, 1, 5, 2), of(list{a51, one("b", 6, 1), c52}, 1, 6, 1, 3, 0, 5, 2)},
		{"a name that is left", of(list{a51}, 1, 2, 0), of(list{b51, a51}[:1], 1, 1, 0), of(list{a51}, 1, 3, 0)},
		{"four and four", of(letters("ZHQR"), 1, 1, 0, 2, 0, 3, 0, 4, 0), of(letters("RQHZ"), 2, 1, 0, 2, 0, 3, 0, 4, 0), of(letters("ZHQR"), 2, 6, 0, 7, 0, 8, 0, 9, 0)},
		{"two and two", of(letters("ZH"), 1, 1, 0, 2, 0), of(letters("SR"), 1, 3, 0, 4, 0), of(letters("ZHSR"), 1, 1, 0, 2, 0, 3, 0, 4, 0)},
		{"the greatest denominators", single(4096, 1, 0), single(4095, 0, 1), single(4096*4095, 4095, 4096)},
		{"the greatest parts", single(4095, 1<<22, -1<<22), single(4093, 1<<22, -1<<22), single(4095*4093, 8188<<22, -8188<<22)},
		{"five of the greatest parts", single(4093, 1<<22, 0), of(list{one("a", 1, 0), one("b", 1, 0), one("c", 1, 0), one("d", 1, 0)}, 4095, 1<<22, 0, 1<<22, 0, 1<<22, 0, 1<<22, 0), single(4093*4095, (4095+4*4093)<<22, 0)},
	} {
		sum, e := tide.Sum(row.a, row.b)
		want(t, "Sum, "+row.what, []any{sum, e}, []any{row.sum, api.OK})
	}
	for _, bad := range []struct {
		a, b tide.Tide
		e    api.Errno
	}{
		{of(list{a51}, 1, 1, 0), of(list{a61}, 1, 1, 0), api.ErrTwice}, {of(list{a51}, 1, 1, 0), of(list{a52}, 1, 1, 0), api.ErrTwice},
		{of(list{b51, a52}, 1, 1, 0, 1, 0), of(list{c51, a61}, 1, 1, 0, 1, 0), api.ErrTwice},
		{of(letters("ZHQ"), 1, 1, 0, 1, 0, 1, 0), of(letters("RS"), 1, 1, 0, 1, 0), api.ErrMany},
		{of(letters("ZHQR"), 1, 1, 0, 1, 0, 1, 0, 1, 0), of(letters("S"), 1, 0, 0), api.ErrMany},
		{of(letters("ZHQR"), 1, 1, 0, 1, 0, 1, 0, 1, 0), of(list{one("Z", 5, 1)}, 1, 1, 0), api.ErrMany},
	} {
		sum, e := tide.Sum(bad.a, bad.b)
		wantError(t, "Sum", sum, e, bad.e)
	}
}

func TestSumErrors(t *testing.T) {
	full := of(letters("ZHQR"), 1, 1, 0, 1, 0, 1, 0, 1, 0)
	for _, bad := range badTides() {
		for _, other := range append(largeTides(), tide.Tide{}, tide.Tide{Constituents: letters("Z")}) {
			sum, e := tide.Sum(bad.t, other)
			wantError(t, "Sum", sum, e, bad.e)
		}
		for _, other := range append(largeTides(), full) {
			sum, e := tide.Sum(other, bad.t)
			wantError(t, "Sum", sum, e, bad.e)
		}
	}
	for _, large := range largeTides() {
		sum, e := tide.Sum(large, single(1, 1, 0))
		wantError(t, "Sum", sum, e, api.ErrLarge)
		sum, e = tide.Sum(single(1, 1, 0), large)
		wantError(t, "Sum", sum, e, api.ErrLarge)
		large.Constituents = []tide.Constituent{one("Z", 5, 1), one("S", 5, 2)}[:len(large.Constituents)]
		sum, e = tide.Sum(full, large)
		wantError(t, "Sum", sum, e, api.ErrLarge)
		sum, e = tide.Sum(large, single(1, 1, 0))
		wantError(t, "Sum", sum, e, api.ErrLarge)
	}
	for _, small := range smallTides() {
		sum, e := tide.Sum(small, small)
		want(t, "Sum", []api.Errno{e, tide.CheckTide(sum)}, []api.Errno{api.OK, api.OK})
	}
}

func TestNodal(t *testing.T) {
	cycle := [][2]int{{24, 25}, {97, 100}, {49, 50}, {99, 100}, {1, 1}, {101, 100}, {51, 50}, {103, 100}, {26, 25}, {103, 100}, {51, 50}, {101, 100}, {1, 1}, {99, 100}, {49, 50}, {97, 100}}
	for _, year := range []int{0, 16, 2016, 2032, 9968} { // 2024 is 8 years behind 2016: example 6
		for i, factor := range cycle {
			x, e := tide.Nodal(year + i)
			want(t, fmt.Sprintf("Nodal of %d", year+i), []any{x, e}, []any{api.Ratio{Num: factor[0], Den: factor[1]}, api.OK})
		}
	}
	x, e := tide.Nodal(9999)
	want(t, "Nodal of the last year", []any{x, e}, []any{api.Ratio{Num: 97, Den: 100}, api.OK})
	for _, year := range []int{-1, 10000, math.MinInt, math.MaxInt} {
		x, e := tide.Nodal(year)
		wantError(t, "Nodal", x, e, api.ErrRange)
	}
}

func TestAdjust(t *testing.T) {
	for _, row := range []struct {
		t    tide.Tide
		year int
		want tide.Tide
	}{
		{single(2, 3, 0), 2024, single(25, 39, 0)}, {single(2, 3, 0), 0, single(25, 36, 0)}, {single(2, 3, -1), 4, single(2, 3, -1)}, {single(1, 0, 0), 1, single(1, 0, 0)},
		{single(1, 25, 50), 8, single(1, 26, 52)}, {single(13, 25, 50), 8, single(1, 2, 4)}, {single(1, 0, 1), 3, single(100, 0, 99)},
		{of(letters("ZH"), 6, 100, -50, 0, 25), 9999, of(letters("ZH"), 24, 4*97, -2*97, 0, 97)},
		{single(4095, 1<<22, -1<<22), 2023, single(4095*25, 103<<20, -103<<20)},
		{single(4093, 1<<22, -1<<22), 7, single(4093*25, 103<<20, -103<<20)},
	} {
		x, e := tide.Adjust(row.t, row.year)
		want(t, "Adjust", []any{x, e}, []any{row.want, api.OK})
	}
	for _, year := range []int{-1, 10000, math.MinInt} {
		for _, x := range append(largeTides(), single(1, 1, 0)) {
			x, e := tide.Adjust(x, year)
			wantError(t, "Adjust", x, e, api.ErrRange)
		}
		for _, bad := range badTides() {
			x, e := tide.Adjust(bad.t, year)
			wantError(t, "Adjust", x, e, bad.e)
		}
	}
	for _, x := range largeTides() {
		x, e := tide.Adjust(x, 4)
		wantError(t, "Adjust", x, e, api.ErrLarge)
	}
	for _, x := range smallTides() {
		same, e := tide.Adjust(x, 4)
		want(t, "Adjust by 1", []any{same, e}, []any{x, api.OK})
	}
}

func TestTold(t *testing.T) {
	const most = 1 << 24
	for _, row := range []struct {
		t    tide.Tide
		want []complex64
	}{
		{single(2, 3, 0), []complex64{0.09375}}, // example 6
		{single(1, 0, 0), []complex64{0}}, {single(1, 16, -32), []complex64{1 - 2i}},
		{of(letters("ZHQ"), 4, 1, -2, 0, 3, 64, 0), []complex64{1.0/64 - 2.0/64*1i, 3.0 / 64 * 1i, 1}},
		{single(1, most, -most), []complex64{1<<20 - 1<<20*1i}}, {single(1<<28, most-1, 1-most), []complex64{(most - 1) * (1 - 1i) / (1 << 32)}},
		{single(1<<28, 1, 0), []complex64{1.0 / (1 << 32)}}, {single(1<<27, 0, -1), []complex64{-1i / (1 << 31)}},
	} {
		l, e := tide.Told(row.t)
		if e != api.OK || !slices.Equal(l, row.want) {
			t.Errorf("Told of %v: got %v and %d, want %v", row.t, l, e, row.want)
		}
	}
	for _, x := range []tide.Tide{
		single(3, 1, 0), single(6, 1, 0), single(1<<28-1, 1, 0), single(12, 1, 0), single(3, 1, most+1),
		single(1, most+1, 0), single(1, -most-1, 0), single(1, 0, most+1), single(1, 0, -most-1), single(2, tide.MaxPart, 1), of(letters("ZH"), 1, 0, 0, 0, most+1),
	} {
		l, e := tide.Told(x)
		wantError(t, "Told", l, e, api.ErrForm)
	}
	for _, bad := range badTides() {
		l, e := tide.Told(bad.t)
		wantError(t, "Told", l, e, bad.e)
	}
}

func TestPrint(t *testing.T) {
	long := strings.Repeat("a", 24)
	for _, row := range []struct {
		t    tide.Tide
		want string
	}{
		{single(2, 3, 0), "tide 2\nconstituent Z 1 0 3 0\n"}, // example 7
		{single(1, 0, 0), "tide 1\nconstituent Z 1 0 0 0\n"},
		{of(letters("RSQ"), 7, -1, 2, 0, -3, 10, 0), "tide 7\nconstituent R 1 3 -1 2\nconstituent S 2 2 0 -3\nconstituent Q 1 1 10 0\n"},
		{of([]tide.Constituent{one(long, 96, 3)}, 1<<28-1, tide.MaxPart, -tide.MaxPart), "tide 268435455\nconstituent " + long + " 96 3 8796093022208 -8796093022208\n"},
	} {
		s, e := tide.Print(row.t)
		want(t, "Print", []any{s, e}, []any{row.want, api.OK})
		x, i, e := tide.Parse(row.want)
		want(t, "Parse", []any{x, i, e}, []any{row.t, 0, api.OK})
	}
	for _, bad := range badTides() {
		s, e := tide.Print(bad.t)
		wantError(t, "Print", s, e, bad.e)
	}
}

func TestParseErrors(t *testing.T) {
	const first, z = "tide 1\n", "constituent Z 1 0 3 0\n"
	for _, row := range []struct {
		s string
		i int
		e api.Errno
	}{
		{first + z, 0, api.OK}, {"tide 2\nconstituent Z 96 3 -3 -1\nconstituent H 1 0 0 0\n", 0, api.OK},
		{"", 0, api.ErrSyntax}, {"\n", 0, api.ErrSyntax}, {"tide 1", 0, api.ErrSyntax}, {first + "constituent Z 1 0 3 0", 1, api.ErrSyntax}, {first + z + "x", 2, api.ErrSyntax},
		{"tide\n", 0, api.ErrSyntax}, {"tide \n", 0, api.ErrSyntax}, {"tide  1\n", 0, api.ErrSyntax}, {"tide 1 \n", 0, api.ErrSyntax}, {" tide 1\n", 0, api.ErrSyntax}, {"tide 1 1\n", 0, api.ErrSyntax}, {"tide\t1\n", 0, api.ErrSyntax}, {"Tide 1\n", 0, api.ErrSyntax}, {"1\n", 0, api.ErrSyntax}, {"tide x\n", 0, api.ErrSyntax}, {"tide 1\r\n", 0, api.ErrSyntax},
		{"tide 01\n", 0, api.ErrSyntax}, {"tide +1\n", 0, api.ErrSyntax}, {"tide -0\n", 0, api.ErrSyntax}, {"tide -\n", 0, api.ErrSyntax}, {"tide -01\n", 0, api.ErrSyntax}, {"tide 1000000000000000\n" + z, 0, api.ErrSyntax}, {"tide 999999999999999\n" + z, 2, api.ErrRange}, {"tide -999999999999999\n" + z, 2, api.ErrRange}, {"tide 000000000000001\n" + z, 0, api.ErrSyntax},
		{z, 0, api.ErrSyntax}, {z + first, 0, api.ErrSyntax}, {first + first, 1, api.ErrSyntax}, {first + z + first, 2, api.ErrSyntax}, {"gauge 1\n" + z, 0, api.ErrSyntax},
		{first + "\n", 1, api.ErrSyntax}, {first + z + "\n", 2, api.ErrSyntax}, {first + "\n" + z, 1, api.ErrSyntax},
		{first + "constituent Z 1 0 3\n", 1, api.ErrSyntax}, {first + "constituent Z 1 0 3 0 0\n", 1, api.ErrSyntax}, {first + "constituent  1 0 3 0\n", 1, api.ErrSyntax}, {first + "constituent Z  1 0 3 0\n", 1, api.ErrSyntax}, {first + "constituent Z 1 0 3 0 \n", 1, api.ErrSyntax}, {first + " constituent Z 1 0 3 0\n", 1, api.ErrSyntax}, {first + "Constituent Z 1 0 3 0\n", 1, api.ErrSyntax}, {first + "Z 1 0 3 0\n", 1, api.ErrSyntax}, {first + "constituent 1 0 3 0\n", 1, api.ErrSyntax}, {first + "constituent Z 1 0 3 x\n", 1, api.ErrSyntax}, {first + "constituent Z x 0 3 0\n", 1, api.ErrSyntax}, {first + "constituent Z 1 0 -0 0\n", 1, api.ErrSyntax}, {first + "constituent Z 01 0 3 0\n", 1, api.ErrSyntax}, {first + "constituent Z 1 +0 3 0\n", 1, api.ErrSyntax}, {first + "constituent Z 1 0 3 1.5\n", 1, api.ErrSyntax}, {first + "constituent\tZ 1 0 3 0\n", 1, api.ErrSyntax},
		{first + "constituent Z 1 0 3 1000000000000000\n", 1, api.ErrSyntax}, {first + "constituent Z 1 0 3 -1000000000000000\n", 1, api.ErrSyntax}, {first + "constituent Z 1 0 3 999999999999999\n", 2, api.ErrRange}, {first + "constituent Z 1 0 -999999999999999 0\n", 2, api.ErrRange},
		{first, 1, api.ErrEmpty}, {first + strings.Repeat(z, 5), 6, api.ErrMany}, {first + z + z, 3, api.ErrTwice}, {first + "constituent 9 1 0 3 0\n", 2, api.ErrName}, {first + "constituent Z\t 1 0 3 0\n", 2, api.ErrName}, {first + "constituent ä 1 0 3 0\n", 2, api.ErrName},
		{first + "constituent Z 0 0 3 0\n", 2, api.ErrRange}, {first + "constituent Z 97 0 3 0\n", 2, api.ErrRange}, {first + "constituent Z 1 4 3 0\n", 2, api.ErrRange}, {first + "constituent Z 1 -1 3 0\n", 2, api.ErrRange}, {first + "constituent Z 1 0 8796093022209 0\n", 2, api.ErrRange}, {first + "constituent Z 1 0 0 -8796093022209\n", 2, api.ErrRange},
		{"tide 0\n" + z, 2, api.ErrRange}, {"tide -1\n" + z, 2, api.ErrRange}, {"tide 268435457\n" + z, 2, api.ErrRange}, {"tide 3\n" + z, 2, api.ErrForm}, {"tide 2\nconstituent Z 1 0 4 2\n", 2, api.ErrForm},
		{"tide 0\nconstituent 9 0 0 0 0\nconstituent x\n", 2, api.ErrSyntax}, {"tide x\nconstituent 9 0 0 0 0\n", 0, api.ErrSyntax}, {first + "constituent\nconstituent\n", 1, api.ErrSyntax},
	} {
		x, i, e := tide.Parse(row.s)
		wantError(t, fmt.Sprintf("Parse of %q", row.s), x, e, row.e)
		want(t, fmt.Sprintf("index of %q", row.s), i, row.i)
	}
}

func TestParseLong(t *testing.T) {
	for _, row := range []struct {
		s string
		i int
		e api.Errno
	}{
		{strings.Repeat("x", 4096), 0, api.ErrSyntax}, {strings.Repeat("x", 4097), 0, api.ErrLong},
		{"tide 1\nconstituent " + strings.Repeat("a", 4068) + " 1 0 3 0\n", 2, api.ErrName}, {"tide 1\nconstituent " + strings.Repeat("a", 4069) + " 1 0 3 0\n", 0, api.ErrLong},
		{"tide 1\nconstituent Z 1 0 3 0\n" + strings.Repeat("\n", 4067), 2, api.ErrSyntax}, {"tide 1\nconstituent Z 1 0 3 0\n" + strings.Repeat("\n", 4068), 0, api.ErrLong},
	} {
		x, i, e := tide.Parse(row.s)
		wantError(t, "Parse of a long text", x, e, row.e)
		want(t, "index", i, row.i)
	}
}
