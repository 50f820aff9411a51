package tide_test

import (
	"math"
	"math/rand"
	"strings"
	"testing"

	"tideway/api"
	"tideway/gauge"
	"tideway/tide"
)

// P2.2

func TestKernel(t *testing.T) {
	for _, row := range []struct {
		r    gauge.Record
		l    []tide.Constituent
		want []api.Gauss
	}{
		{record(0, "1 - 1"), letters("ZH"), gs(2, 0, -2, 0)},               // example 3
		{record(0, "1 - 1"), letters("ZHQR"), gs(2, 0, -2, 0, 0, 0, 0, 0)}, // the first dependent one alone
		{record(0, "1 - 1"), letters("ZQH"), gs(4, 0, 0, 0, -4, 0)},
		{record(0, "1 - 1"), letters("ZQR"), gs(0, 0, 4, 0, -4, 0)},
		{record(1, "1"), letters("ZQ"), gs(0, 1, -1, 0)},
		{record(1, "1"), letters("QZ"), gs(0, -1, -1, 0)}, // the conjugates are those of the ones before it
		{record(1, "1 - 1"), letters("ZH"), gs(-2, 0, -2, 0)},
		{record(9, ""), letters("ZHQR"), gs(-1, 0, 0, 0, 0, 0, 0, 0)}, // none before it
		{record(9, "- -"), letters("Q"), gs(-1, 0)},
		{record(0, "1 1"), letters("ZHQ"), gs(2, 2, 2, -2, -4, 0)},
		{record(0, "1 1"), letters("ZHQR"), gs(2, 2, 2, -2, -4, 0, 0, 0)},
		{record(0, "1 1 1"), letters("ZHQR"), gs(0, -16, 0, 16, 16, 0, -16, 0)},
	} {
		v, e := tide.Kernel(row.r, row.l)
		want(t, "Kernel", []any{v, e}, []any{row.want, api.OK})
		want(t, "CheckKernel", tide.CheckKernel(row.r, row.l, row.want), api.OK)
	}
	for _, l := range [][]tide.Constituent{letters("Z"), letters("ZH"), letters("ZHQR"), letters("SZ")} {
		v, e := tide.Kernel(g(), l)
		wantError(t, "Kernel", v, e, api.ErrNone)
	}
}

func TestKernelsByDefinition(t *testing.T) {
	r := rand.New(rand.NewSource(2))
	dependent := 0
	for range 800 {
		rec, l := randomCase(r)
		m, _ := gram(rec, l)
		first := 0
		for first < len(l) && leibniz(m, first+1, -1, nil) != 0 {
			first++
		}
		v, e := tide.Kernel(rec, l)
		if first == len(l) {
			wantError(t, "Kernel", v, e, api.ErrNone)
			continue
		}
		dependent++
		wanted, sums := make([]api.Gauss, len(l)), make([]complex128, len(l))
		for j := range first {
			sums[j] = m[j][first]
		}
		for j := range first {
			wanted[j] = gauss(leibniz(m, first, j, sums))
		}
		wanted[first] = gauss(-leibniz(m, first, -1, nil))
		want(t, "Kernel", []any{v, e}, []any{wanted, api.OK})
		want(t, "CheckKernel", tide.CheckKernel(rec, l, v), api.OK)
	}
	if dependent < 200 || dependent > 700 {
		t.Errorf("%d of 800 cases are dependent", dependent)
	}
}

func TestCheckKernel(t *testing.T) {
	const most = tide.MaxPart
	even := record(0, "1 - 1")
	for _, row := range []struct {
		what string
		r    gauge.Record
		l    []tide.Constituent
		v    []api.Gauss
		e    api.Errno
	}{
		{"any factor", even, letters("ZH"), gs(1, 0, -1, 0), api.OK},
		{"a complex factor", even, letters("ZH"), gs(-3, 5, 3, -5), api.OK},
		{"none for others", even, letters("ZHQ"), gs(1, 0, -1, 0, 0, 0), api.OK},
		{"the last ones", even, letters("ZQR"), gs(0, 0, 7, 1, -7, -1), api.OK},
		{"the greatest parts", even, letters("ZH"), gs(most, -most, -most, most), api.OK},
		{"four of the greatest parts", record(0, ""), letters("ZHQR"), gs(most, most, most, most, most, most, most, most), api.OK},
		{"no ticks", record(0, "- -"), letters("Z"), gs(0, 1), api.OK},
		{"what is not recorded does not count", record(0, "1 - 1 -"), letters("ZH"), gs(2, 0, -2, 0), api.OK},

		{"no numbers", even, letters("ZH"), nil, api.ErrShape},
		{"a number less", even, letters("ZHQ"), gs(1, 0, -1, 0), api.ErrShape},
		{"a number more", even, letters("ZH"), gs(1, 0, -1, 0, 0, 0), api.ErrShape},
		{"a number more, and out of range", even, letters("ZH"), gs(most+1, 0, -1, 0, 0, 0), api.ErrShape},
		{"a number more, all 0", even, letters("Z"), gs(0, 0, 0, 0), api.ErrShape},
		{"a great part", even, letters("ZH"), gs(most+1, 0, -most-1, 0), api.ErrRange},
		{"a low part", even, letters("ZH"), gs(0, 0, -most-1, 0), api.ErrRange},
		{"a great imaginary part", even, letters("ZH"), gs(0, most+1, 0, -most), api.ErrRange},
		{"a low imaginary part", even, letters("ZH"), gs(0, most, 0, -most-1), api.ErrRange},
		{"the lowest part", even, letters("ZH"), gs(math.MinInt, 0, 0, math.MaxInt), api.ErrRange},
		{"zeros", even, letters("ZH"), gs(0, 0, 0, 0), api.ErrZero},
		{"zeros on no ticks", record(0, ""), letters("ZH"), gs(0, 0, 0, 0), api.ErrZero},
		{"another sign", even, letters("ZH"), gs(2, 0, 2, 0), api.ErrProof},
		{"another imaginary part", even, letters("ZH"), gs(2, 0, -2, 1), api.ErrProof},
		{"0 at the first tick alone", even, letters("ZQ"), gs(2, 0, -2, 0), api.ErrProof},
		{"0 at the last tick alone", even, letters("ZQ"), gs(2, 0, 2, 0), api.ErrProof},
		{"0 in the sum of all ticks", record(0, "1 1"), letters("H"), gs(1, 0), api.ErrProof},
		{"independent ones", g(), letters("ZH"), gs(4, 0, -4, 0), api.ErrProof},
		{"a single one", g(), letters("Z"), gs(1, 0), api.ErrProof},
	} {
		want(t, "CheckKernel, "+row.what, tide.CheckKernel(row.r, row.l, row.v), row.e)
	}
	far := record(0, strings.Repeat("1 - ", 127)+"1 1")
	want(t, "129 ticks", tide.CheckKernel(far, letters("ZH"), gs(1, 0, -1, 0)), api.ErrMany)
	far = record(0, strings.Repeat("1 - ", 127)+"- 1")
	want(t, "wrong at the last tick alone", tide.CheckKernel(far, letters("ZH"), gs(1, 0, -1, 0)), api.ErrProof)
}
