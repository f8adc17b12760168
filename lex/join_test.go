package lex

import (
	"slices"
	"strings"
	"testing"

	"busbar/api"
)

// P9.3

func TestJoin(t *testing.T) {
	mustJoin(t, "")
	mustJoin(t, "a\n", lined("1 a")...)
	mustJoin(t, "a b\n", lined("1 a b")...)
	mustJoin(t, "a\nb\n", lined("1 a", "2 b")...)
	mustJoin(t, "size 1 1 0\nrung\nno I0 L R\nout Q0\n", lined("1 size 1 1 0", "2 rung", "3 no I0 L R", "4 out Q0")...)
	if s := Join(); s != "" {
		t.Errorf("Join of nothing = %q", s)
	}
	if s := Join([]Line{}...); s != "" {
		t.Errorf("Join of no lines = %q", s)
	}
}

// TestJoinWithoutWords has lines that Lines does not return.
func TestJoinWithoutWords(t *testing.T) {
	mustJoin(t, "\n", Line{})
	mustJoin(t, "\n", Line{N: 5, Words: []string{}})
	mustJoin(t, "\n\n\n", Line{}, Line{}, Line{})
	mustJoin(t, "a\n\nb\n", Line{Words: []string{"a"}}, Line{N: 2}, Line{Words: []string{"b"}})
	mustJoin(t, "\na\n", Line{}, Line{Words: []string{"a"}})
	mustJoin(t, "a\n\n", Line{Words: []string{"a"}}, Line{})
}

// TestJoinAnyWords has words that Lines does not return.
func TestJoinAnyWords(t *testing.T) {
	for _, c := range []struct {
		words []string
		want  string
	}{
		{[]string{""}, "\n"},
		{[]string{"", ""}, " \n"},
		{[]string{"", "a", ""}, " a \n"},
		{[]string{"a", "", "b"}, "a  b\n"},
		{[]string{" ", "\t"}, "  \t\n"},
		{[]string{"a b", "c"}, "a b c\n"},
		{[]string{"a\n", "b"}, "a\n b\n"},
		{[]string{"\n"}, "\n\n"},
		{[]string{";", "a"}, "; a\n"},
		{[]string{"a;b"}, "a;b\n"},
		{[]string{"é", "\xff", "\x00"}, "é \xff \x00\n"},
		{[]string{"\r", "%s", "\\"}, "\r %s \\\n"},
	} {
		mustJoin(t, c.want, Line{N: 1, Words: c.words})
		mustJoin(t, "x\n"+c.want+"y z\n", Line{N: 1, Words: []string{"x"}}, Line{N: 2, Words: c.words}, Line{N: 3, Words: []string{"y", "z"}})
	}
}

// TestJoinIgnoresNumbers has numbers that are equal, not in order, or no numbers
// of lines at all.
func TestJoinIgnoresNumbers(t *testing.T) {
	for _, n := range slices.Concat([]int{0, 1, 2, 3, 65536}, outside) {
		mustJoin(t, "a b\n", Line{N: n, Words: []string{"a", "b"}})
		mustJoin(t, "\n", Line{N: n})
		mustJoin(t, "a\nb\nc\n", Line{N: n, Words: []string{"a"}}, Line{N: 7, Words: []string{"b"}}, Line{N: n, Words: []string{"c"}})
		mustJoin(t, "a\nb\n", Line{N: 7, Words: []string{"a"}}, Line{N: n, Words: []string{"b"}})
	}
}

// TestJoinLong has results of more than MaxText bytes.
func TestJoinLong(t *testing.T) {
	word := strings.Repeat("a", 100000)
	mustJoin(t, word+"\n", Line{Words: []string{word}})
	mustJoin(t, strings.Repeat("a ", 99999)+"a\n", Line{Words: slices.Repeat([]string{"a"}, 100000)})
	mustJoin(t, strings.Repeat("a b\n", 50000), slices.Repeat(lined("1 a b"), 50000)...)
	mustJoin(t, strings.Repeat("\n", 100000), make([]Line, 100000)...)
}

func TestJoinSharesNothing(t *testing.T) {
	l := lined("1 a b", "2 c")
	word := strings.Repeat("w", 100)
	l[1].Words[0] = word
	text := Join(l...)
	spoil(l)
	if text != "a b\n"+word+"\n" {
		t.Errorf("a result of Join became %q", text)
	}
	if shares(word, text) || shares(text, word) {
		t.Error("a result of Join shares memory with a word")
	}
}

// P9.4

// mustReturn checks that the words of a text have no separators, and that Lines
// of the result of Join returns the same words.
func mustReturn(t testing.TB, text string) {
	t.Helper()
	l, _, e := Lines(text)
	if e != api.OK {
		t.Fatalf("Lines of %s = %v", excerpt(text), e)
	}
	for _, x := range l {
		if len(x.Words) == 0 {
			t.Fatalf("line %d of %s has no words", x.N, excerpt(text))
		}
		for _, word := range x.Words {
			if word == "" || strings.ContainsAny(word, " \t\n;") {
				t.Fatalf("%s has the word %q", excerpt(text), word)
			}
		}
	}
	joined := Join(l...)
	mustLex(t, joined, wordsOf(l)...)
	mustJoin(t, joined, wordsOf(l)...)
}

func TestLinesOfJoin(t *testing.T) {
	for _, text := range []string{
		"", "\n", " \t\n;a", "a", "a\n", " a\tb  c ;d\n\n;\n\te", "a;b\nc;d", "\n\n\n7", "!\"#$%&'()*+,-./:<=>?@[\\]^_`{|}~",
		strings.Repeat("a b ; c\n\n", 1000), strings.Repeat("a", 65535), strings.Repeat("a\n", 32768), strings.Repeat("a ", 32768), strings.Repeat("a\t;", 20000),
	} {
		mustReturn(t, text)
	}
}

func TestLinesOfJoinShortTexts(t *testing.T) {
	every("ab \t\n;", 6, func(text string) { mustReturn(t, text) })
}

func TestLinesOfJoinAnyTexts(t *testing.T) {
	pick := numbersOf(2)
	tried := 0
	for i := range 20000 {
		text := anyText(pick, pick(2+i%300))
		if _, _, e := Lines(text); e == api.OK {
			mustReturn(t, text)
			tried++
		}
	}
	if tried < 5000 {
		t.Errorf("only %d texts had lines", tried)
	}
}

// TestLinesOfJoinAnyLines joins lines that no text had.
func TestLinesOfJoinAnyLines(t *testing.T) {
	pick := numbersOf(3)
	for i := range 5000 {
		l := make([]Line, pick(1+i%40))
		for j := range l {
			l[j].N = pick(100) - 50
			for range pick(6) {
				l[j].Words = append(l[j].Words, anyWord(pick))
			}
		}
		text := Join(l...)
		got, n, e := Lines(text)
		if n != 0 || e != api.OK || strings.Count(text, "\n") != len(l) || !same(wordsOf(got), wordsOf(l)) {
			t.Fatalf("the lines %v become %v, %d, %v", l, got, n, e)
		}
		for _, x := range got {
			if !slices.Equal(x.Words, l[x.N-1].Words) {
				t.Fatalf("line %d of %v becomes %v", x.N, l, x.Words)
			}
		}
	}
}

func anyWord(pick func(int) int) string {
	b := make([]byte, 1+pick(20))
	for i := range b {
		b[i] = byte(33 + pick(94))
		if b[i] == ';' {
			b[i] = '~'
		}
	}
	return string(b)
}

// TestLinesOfJoinTooLong has the only texts whose joined lines are too long for
// Lines: Join ends the last line with a newline that the text did not have.
func TestLinesOfJoinTooLong(t *testing.T) {
	for _, text := range []string{strings.Repeat("a", 65536), strings.Repeat("a b\n", 16383) + "a bc"} {
		l, _, e := Lines(text)
		if e != api.OK {
			t.Fatalf("Lines of %s = %v", excerpt(text), e)
		}
		mustJoin(t, text+"\n", l...)
		mustNotLex(t, text+"\n", 0, api.ErrLong)
		mustReturn(t, text[:65535])
	}
}
