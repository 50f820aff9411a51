package gauge_test

import (
	"math"
	"strings"
	"testing"

	"tideway/api"
	"tideway/gauge"
)

// P1.5

const hookText = "gauge hook 10\n16\n16\n16\n80\n24\n-\n32\n"

func TestPrint(t *testing.T) {
	s, e := gauge.Print(hook())
	want(t, "Print", []any{s, e}, []any{hookText, api.OK}) // example 6
	s, e = gauge.Print(gauge.Record{Name: "a", Start: 100000, Levels: []float32{-64, float32(math.Copysign(0, -1)), -0.0625}})
	want(t, "Print", []any{s, e}, []any{"gauge a 100000\n-1024\n0\n-1\n", api.OK})
	for wanted, r := range badRecords() {
		s, e := gauge.Print(r)
		want(t, "Print", []any{s, e}, []any{"", wanted})
	}
}

func TestParse(t *testing.T) {
	r, i, e := gauge.Parse(hookText)
	want(t, "Parse", []any{r, i, e}, []any{hook(), 0, api.OK})
	r, i, e = gauge.Parse("gauge a 0\n-\n-\n-1024\n0\n-\n")
	want(t, "Parse", []any{r, i, e}, []any{gauge.Record{Name: "a", Levels: []float32{0, 0, -64, 0, 0}, Gaps: spans(0, 2, 4, 5)}, 0, api.OK})
}

func TestParseErrors(t *testing.T) {
	for _, row := range []struct {
		s string
		i int
		e api.Errno
	}{
		{"gauge a 0\n", 0, api.OK}, {"gauge a 100000\n1\n", 0, api.OK},
		{"", 0, api.ErrSyntax}, {"\n", 0, api.ErrSyntax}, {"gauge a 0", 0, api.ErrSyntax}, {"gauge a 0\n1\n2", 2, api.ErrSyntax},
		{"gauge\n", 0, api.ErrSyntax}, {"gauge a\n", 0, api.ErrSyntax}, {"gauge a 0 0\n", 0, api.ErrSyntax}, {"gauge a 0 \n", 0, api.ErrSyntax}, {" gauge a 0\n", 0, api.ErrSyntax},
		{"gauge  a 0\n", 0, api.ErrSyntax}, {"gauge  0\n", 0, api.ErrSyntax}, {"gauge a  0\n", 0, api.ErrSyntax}, {"gauge\ta\t0\n", 0, api.ErrSyntax}, {"Gauge a 0\n", 0, api.ErrSyntax}, {"tide a 0\n", 0, api.ErrSyntax},
		{"gauge a -1\n", 0, api.ErrSyntax}, {"gauge a +1\n", 0, api.ErrSyntax}, {"gauge a -0\n", 0, api.ErrSyntax}, {"gauge a 01\n", 0, api.ErrSyntax}, {"gauge a 0\r\n", 0, api.ErrSyntax}, {"gauge a x\n", 0, api.ErrSyntax}, {"gauge a -\n", 0, api.ErrSyntax},
		{"gauge a 1000000000\n", 0, api.ErrSyntax}, {"gauge a 999999999\n", 1, api.ErrRange}, {"gauge a 100001\n", 1, api.ErrRange},
		{"gauge a 0\n\n", 1, api.ErrSyntax}, {"gauge a 0\n1\n\n", 2, api.ErrSyntax}, {"gauge a 0\n-0\n", 1, api.ErrSyntax}, {"gauge a 0\n01\n", 1, api.ErrSyntax}, {"gauge a 0\n-01\n", 1, api.ErrSyntax}, {"gauge a 0\n+1\n", 1, api.ErrSyntax},
		{"gauge a 0\n1 \n", 1, api.ErrSyntax}, {"gauge a 0\n 1\n", 1, api.ErrSyntax}, {"gauge a 0\n1 2\n", 1, api.ErrSyntax}, {"gauge a 0\n--\n", 1, api.ErrSyntax}, {"gauge a 0\n1.5\n", 1, api.ErrSyntax}, {"gauge a 0\n1_0\n", 1, api.ErrSyntax}, {"gauge a 0\n٣\n", 1, api.ErrSyntax},
		{"gauge a 0\n1000000000\n", 1, api.ErrSyntax}, {"gauge a 0\n-1000000000\n", 1, api.ErrSyntax}, {"gauge a 0\n-999999999\n", 2, api.ErrRange}, {"gauge a 0\n000000000\n", 1, api.ErrSyntax},
		{"gauge a 0\n1025\nx\n", 2, api.ErrSyntax}, {"gauge 9 100001\n1\nx\n1\n", 2, api.ErrSyntax},
		{"gauge a 0\n1025\n", 2, api.ErrRange}, {"gauge a 0\n-1025\n1\n", 3, api.ErrRange}, {"gauge 9 0\n1025\n", 2, api.ErrName}, {"gauge a\xff 0\n", 1, api.ErrName}, {"gauge " + strings.Repeat("a", 25) + " 0\n1\n", 2, api.ErrName},
		{"gauge a 0\n" + strings.Repeat("1025\n", 4097), 4098, api.ErrMany}, {"gauge a 0\n" + strings.Repeat("-\n1\n", 2048), 0, api.OK}, {"gauge a 0\n" + strings.Repeat("-\n1\n", 2049), 4099, api.ErrMany},
	} {
		r, i, e := gauge.Parse(row.s)
		want(t, "Parse of "+row.s, []any{i, e}, []any{row.i, row.e})
		if e != api.OK {
			want(t, "Parse beside an error", r, gauge.Record{})
		}
	}
}

func TestParseLong(t *testing.T) {
	heading := "gauge a 0\n"
	most := heading + strings.Repeat("-\n", (1000000-len(heading))/2)
	want(t, "bytes", len(most), 1000000)
	_, i, e := gauge.Parse(most)
	want(t, "Parse", []any{i, e}, []any{499996, api.ErrMany})
	_, i, e = gauge.Parse(most + "x")
	want(t, "Parse", []any{i, e}, []any{0, api.ErrLong})
}

func TestEncode(t *testing.T) {
	c, e := gauge.Encode(hook())
	want(t, "Encode", e, api.OK)
	want(t, "Encode", c, append([]byte("TIDE\x04hook"),
		0, 0, 0, 10, 0, 0, 0, 7, 0, 0, 0, 1, 0, 0, 0, 5, 0, 0, 0, 6,
		63, 128, 0, 0, 63, 128, 0, 0, 63, 128, 0, 0, 64, 160, 0, 0, 63, 192, 0, 0, 0, 0, 0, 0, 64, 0, 0, 0)) // example 6
	c, e = gauge.Encode(gauge.Record{Name: "a", Start: 0x10203, Levels: []float32{float32(math.Copysign(0, -1)), -64}})
	want(t, "Encode", []any{c, e}, []any{append([]byte("TIDE\x01a"), 0, 1, 2, 3, 0, 0, 0, 2, 0, 0, 0, 0, 0, 0, 0, 0, 194, 128, 0, 0), api.OK})
	for wanted, r := range badRecords() {
		c, e := gauge.Encode(r)
		want(t, "Encode", []any{c, e}, []any{[]byte{}, wanted})
	}
}

func TestDecode(t *testing.T) {
	c, _ := gauge.Encode(hook())
	r, e := gauge.Decode(c)
	want(t, "Decode", []any{r, e}, []any{hook(), api.OK})
	empty, e := gauge.Decode([]byte("TIDE\x01a\x00\x00\x00\x05\x00\x00\x00\x00\x00\x00\x00\x00"))
	want(t, "Decode", []any{empty, e}, []any{gauge.Record{Name: "a", Start: 5}, api.OK})
	for n := range c { // every stream that is cut off
		r, e := gauge.Decode(c[:n])
		want(t, "Decode of a part", []any{r, e}, []any{gauge.Record{}, api.ErrTorn})
	}
}

func TestDecodeErrors(t *testing.T) {
	c, _ := gauge.Encode(hook())
	with := func(at int, bytes ...byte) []byte {
		out := append([]byte{}, c...)
		copy(out[at:], bytes)
		return out
	}
	minus := []byte{128, 0, 0, 0}
	for _, row := range []struct {
		what string
		s    []byte
		e    api.Errno
	}{
		{"nothing", nil, api.ErrTorn}, {"four other bytes", []byte("SNDR"), api.ErrTorn}, {"another beginning", []byte("SNDR\x00"), api.ErrForm}, {"small letters", with(0, 't'), api.ErrForm},
		{"a beginning alone", []byte("TIDE\x00"), api.ErrTorn}, {"a long name", []byte("TIDE\xffhook"), api.ErrTorn},
		{"a byte more", append(with(0), 0), api.ErrShape}, {"a level less", with(13, 0, 0, 0, 6), api.ErrShape}, {"a gap less", with(17, 0, 0, 0, 0), api.ErrShape},
		{"a level more", with(13, 0, 0, 0, 8), api.ErrTorn}, {"a gap more", with(17, 0, 0, 0, 2), api.ErrTorn}, {"most levels", with(13, 255, 255, 255, 255), api.ErrTorn}, {"most gaps", with(17, 255, 255, 255, 255), api.ErrTorn}, {"most of both", with(13, 255, 255, 255, 255, 255, 255, 255, 255), api.ErrTorn},
		{"-0", with(29, minus...), api.ErrForm}, {"-0 in a gap", with(49, minus...), api.ErrForm}, {"-0 of a record without a name", append([]byte("TIDE\x00\x00\x00\x00\x00\x00\x00\x00\x01\x00\x00\x00\x00"), minus...), api.ErrForm},
		{"no name", with(5, '9'), api.ErrName}, {"a late start", with(9, 0, 1, 134, 161), api.ErrRange}, {"the latest start", with(9, 0, 1, 134, 160), api.OK}, {"a start with the highest bit", with(9, 255), api.ErrRange},
		{"NaN", with(29, 127, 192, 0, 0), api.ErrForm}, {"infinity", with(29, 127, 128, 0, 0), api.ErrForm}, {"between two levels", with(29, 63, 128, 0, 1), api.ErrRange},
		{"a level in a gap", with(49, 63, 128, 0, 0), api.ErrForm}, {"a gap of no ticks", with(21, 0, 0, 0, 6), api.ErrSpan}, {"a gap behind the end", with(25, 0, 0, 0, 8), api.ErrSpan}, {"a gap with the highest bit", with(21, 255, 255, 255, 255), api.ErrSpan},
	} {
		r, e := gauge.Decode(row.s)
		want(t, "Decode of "+row.what, e, row.e)
		if e != api.OK {
			want(t, "Decode beside an error", r, gauge.Record{})
		}
	}
}

func TestDecodeLong(t *testing.T) {
	s := make([]byte, 4000000)
	_, e := gauge.Decode(s)
	want(t, "Decode", e, api.ErrForm)
	_, e = gauge.Decode(append(s, 0))
	want(t, "Decode", e, api.ErrLong)
	many := append([]byte("TIDE\x01a\x00\x00\x00\x00\x00\x00\x10\x01\x00\x00\x00\x00"), make([]byte, 4*4097)...)
	_, e = gauge.Decode(many)
	want(t, "Decode", e, api.ErrMany)
}
