package lex

import (
	"math/big"
	"regexp"
	"testing"

	"busbar/api"
)

// A lexer is a lexer that goes through a text byte by byte, without a view to
// how Lines does it.
type lexer struct {
	n       int // the number of the line
	comment bool
	word    []byte
	words   []string
	lines   []Line
}

func (x *lexer) endWord() {
	if len(x.word) > 0 {
		x.words = append(x.words, string(x.word))
	}
	x.word = nil
}

func (x *lexer) endLine() {
	x.endWord()
	if len(x.words) > 0 {
		x.lines = append(x.lines, Line{N: x.n, Words: x.words})
	}
	x.words, x.comment = nil, false
	x.n++
}

// take takes the next byte. It returns false if the byte is forbidden.
func (x *lexer) take(c byte) bool {
	switch {
	case c == 10:
		x.endLine()
	case x.comment:
	case c == 59:
		x.comment = true
	case c == 32, c == 9:
		x.endWord()
	case c < 32, c > 126:
		return false
	default:
		x.word = append(x.word, c)
	}
	return true
}

func reference(text string) ([]Line, int, api.Errno) {
	if len(text) > 65536 {
		return nil, 0, api.ErrLong
	}
	x := &lexer{n: 1}
	for i := range len(text) {
		if !x.take(text[i]) {
			return nil, x.n, api.ErrForm
		}
	}
	x.endLine()
	return x.lines, 0, api.OK
}

// mustAgree checks Lines by the reference, and returns its error.
func mustAgree(t testing.TB, text string) api.Errno {
	t.Helper()
	want, n, e := reference(text)
	if e == api.OK {
		mustLex(t, text, want...)
	} else {
		mustNotLex(t, text, n, e)
	}
	return e
}

var (
	name    = regexp.MustCompile(`\A[A-Za-z][0-9A-Za-z_]{0,15}\z`)
	decimal = regexp.MustCompile(`\A(0|[1-9][0-9]*)\z`)
)

// mustAgreeOnNumber checks Number by numbers of any size.
func mustAgreeOnNumber(t testing.TB, word string, most int) api.Errno {
	t.Helper()
	want, e := 0, api.OK
	if n, ok := new(big.Int).SetString(word, 10); most < 0 || most > 1000000 {
		e = api.ErrArg
	} else if !decimal.MatchString(word) || !ok {
		e = api.ErrForm
	} else if n.Cmp(big.NewInt(int64(most))) > 0 {
		e = api.ErrRange
	} else {
		want = int(n.Int64())
	}
	mustNumber(t, word, most, want, e)
	return e
}
