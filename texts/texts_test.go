package texts_test

import (
	"slices"
	"strings"
	"testing"

	"tideway/api"
	"tideway/texts"
)

func TestIsName(t *testing.T) {
	for _, s := range []string{"a", "Z", "a_", "A9", "zAz09_", strings.Repeat("x", 24)} {
		if !texts.IsName(s) {
			t.Errorf("%q is no name", s)
		}
	}
	for _, s := range []string{"", "9", "_", "_a", "a b", "a-", "é", "aé", "a\xff", "a\n", "@", "[", "`", "{", "a/", "a:", strings.Repeat("x", 25)} {
		if texts.IsName(s) {
			t.Errorf("%q is a name", s)
		}
	}
}

func TestLines(t *testing.T) {
	for s, wanted := range map[string][]string{
		"": {}, "\n": {"\n"}, "a\n": {"a\n"}, "a": {"a"}, "a\n\n": {"a\n", "\n"}, "a\nb": {"a\n", "b"},
	} {
		if got := texts.Lines(s); !slices.Equal(got, wanted) {
			t.Errorf("Lines of %q: got %q, want %q", s, got, wanted)
		}
	}
}

func TestWords(t *testing.T) {
	for _, row := range []struct {
		line  string
		words []string
		ended bool
	}{
		{"a b\n", []string{"a", "b"}, true}, {"a b", []string{"a", "b"}, false}, {"a  b \n", []string{"a", "", "b", ""}, true}, {"\n", []string{""}, true}, {"", []string{""}, false}, {"a\tb\n", []string{"a\tb"}, true},
	} {
		words, ended := texts.Read(row.line)
		var got []string
		for !words.Done() {
			got = append(got, words.Next())
		}
		if !slices.Equal(got, row.words) || ended != row.ended || words.Next() != "" {
			t.Errorf("words of %q: got %q and %v", row.line, got, ended)
		}
	}
}

func TestInteger(t *testing.T) {
	for _, row := range []struct {
		word   string
		digits int
		n      int
		ok     bool
	}{
		{"0", 9, 0, true}, {"7", 9, 7, true}, {"-7", 9, -7, true}, {"999999999", 9, 999999999, true}, {"-999999999", 9, -999999999, true}, {"100000000000000", 15, 100000000000000, true},
		{"", 9, 0, false}, {"-", 9, 0, false}, {"-0", 9, 0, false}, {"00", 9, 0, false}, {"07", 9, 0, false}, {"-07", 9, 0, false}, {"+7", 9, 0, false}, {"--7", 9, 0, false}, {"7-", 9, 0, false}, {" 7", 9, 0, false}, {"1000000000", 9, 0, false}, {"-1000000000", 9, 0, false}, {"1e3", 9, 0, false}, {"/", 9, 0, false}, {":", 9, 0, false}, {"٣", 9, 0, false}, {"1\xff", 9, 0, false},
	} {
		if n, ok := texts.Integer(row.word, row.digits); n != row.n || ok != row.ok {
			t.Errorf("Integer of %q: got %d and %v", row.word, n, ok)
		}
	}
	if n, ok := texts.Integer("1000000000000000", 15); n != 0 || ok {
		t.Errorf("Integer of 16 digits: got %d and %v", n, ok)
	}
}

func TestIntegers(t *testing.T) {
	for _, row := range []struct {
		line string
		a, b int
		ok   bool
		left string
	}{
		{"7 -8\n", 7, -8, true, ""}, {"0 99 x\n", 0, 99, true, "x"}, {"7 100 x\n", 7, 0, false, "x"}, {"-0 8 x\n", 0, 0, false, "8"}, {"7\n", 7, 0, false, ""}, {"\n", 0, 0, false, ""},
	} {
		words, _ := texts.Read(row.line)
		var a, b int
		if ok := texts.Integers(words.Next, 2, &a, &b); ok != row.ok || a != row.a || b != row.b || words.Next() != row.left {
			t.Errorf("Integers of %q: got %d, %d and %v", row.line, a, b, ok)
		}
	}
	words, _ := texts.Read("7\n")
	if !texts.Integers(words.Next, 2) || words.Next() != "7" {
		t.Error("no integers take a word")
	}
}

func TestLeft(t *testing.T) {
	for _, row := range []struct {
		line string
		read func(word string, digits int) (int, bool)
		want []int
		ok   bool
	}{
		{"x", texts.Integer, nil, true}, {"x 7 -8 0\n", texts.Integer, []int{7, -8, 0}, true}, {"x 99\n", texts.Unsigned, []int{99}, true}, {"x 7 8", texts.Unsigned, []int{7, 8}, true},
		{"x 7 -8\n", texts.Unsigned, nil, false}, {"x 7 100 8\n", texts.Integer, nil, false}, {"x y 7\n", texts.Integer, nil, false}, {"x \n", texts.Integer, nil, false}, {"x 7 \n", texts.Integer, nil, false}, {"x 7  8\n", texts.Integer, nil, false},
	} {
		words, _ := texts.Read(row.line)
		words.Next()
		l, ok := texts.Left(words, 2, row.read)
		if !slices.Equal(l, row.want) || ok != row.ok || ok && !words.Done() {
			t.Errorf("Left of %q: got %v and %v", row.line, l, ok)
		}
	}
}

func TestUnsigned(t *testing.T) {
	for _, row := range []struct {
		word string
		n    int
		ok   bool
	}{
		{"0", 0, true}, {"7", 7, true}, {"999999999", 999999999, true}, {"-7", 0, false}, {"-0", 0, false}, {"+7", 0, false}, {"07", 0, false}, {"1000000000", 0, false}, {"", 0, false}, {"x", 0, false},
	} {
		if n, ok := texts.Unsigned(row.word, 9); n != row.n || ok != row.ok {
			t.Errorf("Unsigned of %q: got %d and %v", row.word, n, ok)
		}
	}
}

func TestNumbered(t *testing.T) {
	if got := texts.Numbered(); got != "" {
		t.Errorf("Numbered of nothing: got %q", got)
	}
	if got := texts.Numbered(5, -16, 0); got != " 5 -16 0" {
		t.Errorf("Numbered: got %q", got)
	}
}

func TestParse(t *testing.T) {
	read := func(l *[]string, line string) bool {
		*l = append(*l, line)
		return line != "x\n"
	}
	check := func(l []string) api.Errno {
		if len(l) > 2 {
			return api.ErrMany
		}
		return api.OK
	}
	for _, row := range []struct {
		s    string
		want string
		i    int
		e    api.Errno
	}{
		{"", "", 0, api.OK}, {"a\nb\n", "a\n|b\n", 0, api.OK}, {"ab\nc", "ab\n|c", 0, api.OK}, {"aaaaaaaa", "aaaaaaaa", 0, api.OK},
		{"aaaaaaaaa", "", 0, api.ErrLong}, {"x\nx\nx\nx\nx", "", 0, api.ErrLong}, {"x\n", "", 0, api.ErrSyntax}, {"a\n\nx\n\n", "", 2, api.ErrSyntax}, {"a\nx\nx\n", "", 1, api.ErrSyntax}, {"a\nb\nc\nd", "", 4, api.ErrMany}, {"\n\n\n", "", 3, api.ErrMany},
	} {
		l, i, e := texts.Parse(row.s, 8, read, check)
		if strings.Join(l, "|") != row.want || i != row.i || e != row.e || e != api.OK && l != nil {
			t.Errorf("Parse of %q: got %q, %d and %d", row.s, l, i, e)
		}
	}
}
