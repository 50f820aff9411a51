// Package texts reads and writes the names, the lines, the words and the integers of the texts of all chapters.
package texts

import (
	"strconv"
	"strings"

	"tideway/api"
)

// IsName reports whether a string is a name: letters, digits and `_`, the first one a letter.
func IsName(s string) bool {
	if s == "" || len(s) > api.MaxName {
		return false
	}
	for i, c := range s {
		if !isLetter(c) && (i == 0 || !isDigit(c) && c != '_') {
			return false
		}
	}
	return true
}

func isLetter(c rune) bool {
	return 'a' <= c && c <= 'z' || 'A' <= c && c <= 'Z'
}

func isDigit(c rune) bool {
	return '0' <= c && c <= '9'
}

// Lines splits a text behind each line feed. What stands behind the last one is a line, too, if it is not empty.
func Lines(s string) []string {
	out := strings.SplitAfter(s, "\n")
	if last := len(out) - 1; out[last] == "" {
		out = out[:last]
	}
	return out
}

// Words is what is left of the words of a line.
type Words struct {
	left []string
}

// Read returns the words of a line, which are separated by one blank, and whether it has its line feed.
func Read(line string) (*Words, bool) {
	body, ended := strings.CutSuffix(line, "\n")
	return &Words{left: strings.Split(body, " ")}, ended
}

// Next takes the next word: the empty one, which is no word of a text, if none is left.
func (w *Words) Next() string {
	if w.Done() {
		return ""
	}
	word := w.left[0]
	w.left = w.left[1:]
	return word
}

// Done reports whether no word is left.
func (w *Words) Done() bool {
	return len(w.left) == 0
}

// Integer returns the integer with at most so many digits that a word is, and whether it is one.
// Only the word that the integer is printed as is one: no leading zeros, no `+`, no `-0`.
func Integer(word string, digits int) (int, bool) {
	body, negative := strings.CutPrefix(word, "-")
	if body == "" || len(body) > digits {
		return 0, false
	}
	if body[0] == '0' && (len(body) > 1 || negative) {
		return 0, false
	}
	n := 0
	for _, c := range body {
		if !isDigit(c) {
			return 0, false
		}
		n = 10*n + int(c-'0')
	}
	if negative {
		n = -n
	}
	return n, true
}

// Integers takes a word for each integer, and reports whether all of them are integers with at most so many digits.
func Integers(next func() string, digits int, integers ...*int) bool {
	for _, n := range integers {
		x, ok := Integer(next(), digits)
		if !ok {
			return false
		}
		*n = x
	}
	return true
}

// Left takes the words that are left of a line, each of which read makes an integer with at most so many digits, and reports whether all of them are such.
func Left(w *Words, digits int, read func(word string, digits int) (int, bool)) ([]int, bool) {
	var out []int
	for !w.Done() {
		n, ok := read(w.Next(), digits)
		if !ok {
			return nil, false
		}
		out = append(out, n)
	}
	return out, true
}

// Unsigned returns the integer without a sign that a word is, and whether it is one.
func Unsigned(word string, digits int) (int, bool) {
	if n, ok := Integer(word, digits); ok && n >= 0 {
		return n, true
	}
	return 0, false
}

// Numbered returns integers with a blank before each one.
func Numbered(integers ...int) string {
	var out strings.Builder
	for _, n := range integers {
		out.WriteString(" " + strconv.Itoa(n))
	}
	return out.String()
}

// Parse reads a text of at most so many bytes line by line into a value, which it then checks.
// Beside an error it returns the index of the line that read refuses (with ErrSyntax), or the number of lines if check refuses the value.
func Parse[T any](s string, most int, read func(value *T, line string) bool, check func(value T) api.Errno) (T, int, api.Errno) {
	var out, zero T
	if len(s) > most {
		return zero, 0, api.ErrLong
	}
	lines := Lines(s)
	for i, line := range lines {
		if !read(&out, line) {
			return zero, i, api.ErrSyntax
		}
	}
	if e := check(out); e != api.OK {
		return zero, len(lines), e
	}
	return out, 0, api.OK
}
