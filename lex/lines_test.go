package lex

import (
	"slices"
	"strconv"
	"strings"
	"testing"

	"busbar/api"
)

// P9.1

func TestExample(t *testing.T) {
	mustLex(t, "a  b ; c\n\n 7", lined("1 a b", "3 7")...)
}

func TestLadder(t *testing.T) {
	text := "; a motor\nsize 2 1 0\n\nrung start ; with a seal\n\tno I0 L a\n\tno Q0 L a\n\tnc I1 a R\n\tout Q0;the motor\njump end\n"
	mustLex(t, text, lined("2 size 2 1 0", "4 rung start", "5 no I0 L a", "6 no Q0 L a", "7 nc I1 a R", "8 out Q0", "9 jump end")...)
}

func TestNoWords(t *testing.T) {
	for _, text := range []string{
		"", " ", "\t", "   ", "\t\t", " \t \t", "\n", "\n\n", strings.Repeat("\n", 1000), " \n\t", "\n \n\t\n  \t ",
		";", ";;", "; ", ";a", "; a b", " ;a", "\t;a", ";\n", "\n;", ";a\n;b\n", ";a\n;b", "\n\n ; a ; b\n\t;\n",
	} {
		mustLex(t, text)
	}
}

func TestNewlineAtEnd(t *testing.T) {
	for _, end := range []string{"", "\n", "\n\n", "\n \n", "\n;", "\n; b", "\n\t", " \n", ";\n", ";"} {
		mustLex(t, "a"+end, lined("1 a")...)
		mustLex(t, "\n\na b"+end, lined("3 a b")...)
		mustLex(t, "a\nb\n\nc"+end, lined("1 a", "2 b", "4 c")...)
	}
}

func TestSpacesAndTabs(t *testing.T) {
	runs := []string{" ", "\t", "  ", "\t\t", " \t", "\t ", " \t \t\t  ", strings.Repeat(" ", 300), strings.Repeat("\t ", 300)}
	for _, run := range runs {
		mustLex(t, run+"a", lined("1 a")...)
		mustLex(t, "a"+run, lined("1 a")...)
		mustLex(t, run+"a"+run, lined("1 a")...)
		mustLex(t, "a"+run+"b", lined("1 a b")...)
		mustLex(t, run+"a"+run+"bc"+run+"d"+run, lined("1 a bc d")...)
		mustLex(t, run+"\n"+run+"a"+run+"b"+run+"\n"+run+"\n"+run+"c"+run+"\n"+run, lined("2 a b", "4 c")...)
		mustLex(t, "a"+run+";"+run+"b\nc", lined("1 a", "2 c")...)
	}
}

func TestComments(t *testing.T) {
	for text, want := range map[string][]Line{
		";a\nb":                 lined("2 b"),
		"a;b":                   lined("1 a"),
		"a;b c\nd":              lined("1 a", "2 d"),
		"a ;b":                  lined("1 a"),
		"a b;c d\n":             lined("1 a b"),
		"a;;b":                  lined("1 a"),
		"a; b ; c":              lined("1 a"),
		";;a\nb;;c\n":           lined("2 b"),
		"a;":                    lined("1 a"),
		"a;\nb;":                lined("1 a", "2 b"),
		"a\n;b":                 lined("1 a"),
		"a\nb ; c":              lined("1 a", "2 b"),
		"a;b\nc;d\n;e\nf;g\n":   lined("1 a", "2 c", "4 f"),
		"a\t;\tb\n\t;\n\tc;":    lined("1 a", "3 c"),
		"a;\"b\nc\"":            lined("1 a", "2 c\""),
		"a;b\\\nc":              lined("1 a", "2 c"),
		"a#b //c /*d\n*/ --e;f": lined("1 a#b //c /*d", "2 */ --e"),
	} {
		mustLex(t, text, want...)
	}
}

// TestEveryByteWithinWord has every byte within a word, at its start, at its end
// and as the only one.
func TestEveryByteWithinWord(t *testing.T) {
	for c := range 256 {
		b := string([]byte{byte(c)})
		switch {
		case c == 10:
			mustLex(t, "a"+b+"z", lined("1 a", "2 z")...)
			mustLex(t, b+"z", lined("2 z")...)
			mustLex(t, "a"+b, lined("1 a")...)
			mustLex(t, b)
		case c == 32 || c == 9:
			mustLex(t, "a"+b+"z", lined("1 a z")...)
			mustLex(t, b+"z", lined("1 z")...)
			mustLex(t, "a"+b, lined("1 a")...)
			mustLex(t, b)
		case c == 59:
			mustLex(t, "a"+b+"z", lined("1 a")...)
			mustLex(t, b+"z")
			mustLex(t, "a"+b, lined("1 a")...)
			mustLex(t, b)
		case c >= 33 && c <= 126:
			for _, word := range []string{"a" + b + "z", b + "z", "a" + b, b, b + b} {
				mustLex(t, word, lined("1 "+word)...)
			}
		default:
			for _, word := range []string{"a" + b + "z", b + "z", "a" + b, b, b + b} {
				mustNotLex(t, word, 1, api.ErrForm)
			}
		}
	}
}

// TestEveryByteBetweenWords has every byte with a space or a tab on both sides.
func TestEveryByteBetweenWords(t *testing.T) {
	for c := range 256 {
		b := string([]byte{byte(c)})
		for _, run := range []string{" ", "\t"} {
			text := "a" + run + b + run + "z"
			switch {
			case c == 10:
				mustLex(t, text, lined("1 a", "2 z")...)
			case c == 32 || c == 9:
				mustLex(t, text, lined("1 a z")...)
			case c == 59:
				mustLex(t, text, lined("1 a")...)
			case c >= 33 && c <= 126:
				mustLex(t, text, lined("1 a "+b+" z")...)
			default:
				mustNotLex(t, text, 1, api.ErrForm)
				mustNotLex(t, text+"\nb", 1, api.ErrForm)
			}
		}
	}
}

// TestEveryByteWithinComment has every byte at the start, within and at the end
// of comments. Only a newline ends a comment.
func TestEveryByteWithinComment(t *testing.T) {
	for c := range 256 {
		b := string([]byte{byte(c)})
		for _, comment := range []string{";" + b, "; " + b, ";x" + b + "y", ";x " + b + " y", ";;" + b, ";" + b + ";", ";" + b + b} {
			if c == 10 {
				mustAgree(t, "a"+comment)
				continue
			}
			mustLex(t, comment)
			mustLex(t, "a"+comment, lined("1 a")...)
			mustLex(t, "a "+comment+"\nb", lined("1 a", "2 b")...)
			mustLex(t, comment+"\n\n b "+comment+"\n", lined("3 b")...)
		}
	}
}

// TestEveryForbiddenByteBehindLines has every forbidden byte in a later line.
func TestEveryForbiddenByteBehindLines(t *testing.T) {
	for c := range 256 {
		if c == 9 || c == 10 || c >= 32 && c <= 126 {
			continue
		}
		b := string([]byte{byte(c)})
		for before, n := range map[string]int{
			"": 1, " ": 1, "a ": 1, "a\n": 2, "\n\n\n": 4, ";\n": 2, "a;\n;b\n \n\t\n": 5, "a\nb\nc\n;d\n e": 5,
			strings.Repeat("\n", 999): 1000, strings.Repeat(";\xff\n", 99): 100, strings.Repeat("a\n", 299) + "\t": 300,
		} {
			mustNotLex(t, before+b, n, api.ErrForm)
			mustNotLex(t, before+b+"\n", n, api.ErrForm)
			mustNotLex(t, before+"a"+b+" b;c\nd", n, api.ErrForm)
			mustNotLex(t, before+b+";"+b+"\n"+b+"\n", n, api.ErrForm)
		}
	}
}

func TestFirstForbiddenLine(t *testing.T) {
	for text, n := range map[string]int{
		"\x01\n\x01":             1,
		"a\n\x01\n\x02\n":        2,
		"a\x01b\x02\nc":          1,
		"a\nb\n\nc \xff\n\x00":   4,
		";\x01\n\x01\n\x01":      2,
		";\x01\n;\x01\na\n\x01;": 4,
		"a;\x01\nb;\x02\nc\x03;": 3,
		"\x7f;\x7f":              1,
		"\n\x80 ; a":             2,
		"a\n\n \t\n;\n\x1f\nb\n": 5,
		"a\nb\nc\nd\x0b":         4,
	} {
		mustNotLex(t, text, n, api.ErrForm)
	}
}

// TestCarriageReturn has carriage returns, which are no spaces and end no line.
func TestCarriageReturn(t *testing.T) {
	for text, n := range map[string]int{
		"\r": 1, "a\r": 1, "a\r\nb\r\n": 1, "\r\n": 1, "a\n\r": 2, "a\rb": 1, "a \r b": 1, "a\n\rb": 2, "a\n;\r\n\r": 3, "\r;": 1,
	} {
		mustNotLex(t, text, n, api.ErrForm)
	}
	mustLex(t, "a;\r\nb;\r\n;\r", lined("1 a", "2 b")...)
	mustLex(t, "a;\rb\nc", lined("1 a", "2 c")...)
}

// TestBeyondASCII has characters of several bytes, among them other spaces,
// newlines and semicolons, and bytes that are no characters.
func TestBeyondASCII(t *testing.T) {
	for _, c := range []string{
		"é", "Ａ", "٣", "\u0085", "\u00a0", "\u037e", "\u2003", "\u2028", "\u2029", "\u3000", "\ufeff", "\ufffd", "\U0001f600", "\U0010ffff",
		"\xe2\x80", "\xc3", "\xc0\x8a", "\xc1\x81", "\xe0\x80\xbb", "\xed\xa0\x80", "\xf4\x90\x80\x80", "\x80", "\xff\xfe",
	} {
		for _, text := range []string{c, "a" + c + "b", "a " + c + " b", c + "a", "a" + c, c + ";", c + "\nb"} {
			mustNotLex(t, text, 1, api.ErrForm)
			mustNotLex(t, "a\n"+text, 2, api.ErrForm)
		}
		mustLex(t, "a;"+c+"\nb", lined("1 a", "2 b")...)
		mustLex(t, ";"+c+"\n"+" b c;"+c, lined("2 b c")...)
	}
}

// P9.1: the limit of the text

func TestLongestTexts(t *testing.T) {
	mustLex(t, strings.Repeat(" ", 65536))
	mustLex(t, strings.Repeat("\t", 65536))
	mustLex(t, strings.Repeat("\n", 65536))
	mustLex(t, strings.Repeat(";", 65536))
	mustLex(t, ";"+strings.Repeat("\xff", 65535))
	word := strings.Repeat("a", 65536)
	mustLex(t, word, Line{N: 1, Words: []string{word}})
	mustLex(t, word[1:]+"\n", Line{N: 1, Words: []string{word[1:]}})
	mustLex(t, strings.Repeat("\n", 65535)+"a", lined("65536 a")...)
	mustLex(t, strings.Repeat(" ", 65535)+"a", lined("1 a")...)
	mustLex(t, strings.Repeat("a ", 32768), lined("1"+strings.Repeat(" a", 32768))...)
	mustLex(t, strings.Repeat("a\n", 32768), wordsOf(slices.Repeat(lined("1 a"), 32768))...)
}

func TestLongestTextsWithForbiddenByte(t *testing.T) {
	mustNotLex(t, strings.Repeat(" ", 65535)+"\x01", 1, api.ErrForm)
	mustNotLex(t, strings.Repeat("\n", 65535)+"\x01", 65536, api.ErrForm)
	mustNotLex(t, "\xff"+strings.Repeat("\n", 65535), 1, api.ErrForm)
	mustNotLex(t, strings.Repeat("\r", 65536), 1, api.ErrForm)
	mustNotLex(t, strings.Repeat("a\n", 32767)+"\x7fa", 32768, api.ErrForm)
}

func TestTooLong(t *testing.T) {
	for _, n := range []int{65537, 65538, 65536 + 256, 100000, 131072, 1 << 20} {
		for _, b := range []string{" ", "\n", ";", "a", "\x01", "\xff"} {
			mustNotLex(t, strings.Repeat(b, n), 0, api.ErrLong)
		}
	}
	fill := strings.Repeat(" ", 65534)
	for _, text := range []string{
		fill + "ab\n", fill + "a\n\n", fill + "\na\x01", "\x01" + fill + "a;", "\x01\n" + fill + "a", fill + "a;\x01", ";" + fill + "\n;", "é" + fill + "a",
	} {
		mustNotLex(t, text, 0, api.ErrLong)
		if mustAgree(t, text[:65536]) == api.ErrLong {
			t.Error("65536 bytes are too long")
		}
	}
	// Bytes are counted, not characters.
	mustNotLex(t, ";"+strings.Repeat("é", 32768), 0, api.ErrLong)
	mustLex(t, "a;"+strings.Repeat("é", 32767), lined("1 a")...)
}

// P9.1: comparison with the reference

// TestShortTexts compares all short texts over an alphabet.
func TestShortTexts(t *testing.T) {
	verdicts := map[api.Errno]int{}
	every("ab \t\n;\x01\xff", 6, func(text string) { verdicts[mustAgree(t, text)]++ })
	every("a \n;", 9, func(text string) { verdicts[mustAgree(t, text)]++ })
	if verdicts[api.OK] < 1000 || verdicts[api.ErrForm] < 1000 {
		t.Error(verdicts)
	}
}

func TestAnyTexts(t *testing.T) {
	pick := numbersOf(1)
	verdicts := map[api.Errno]int{}
	for i := range 20000 {
		verdicts[mustAgree(t, anyText(pick, pick(2+i%300)))]++
	}
	for range 50 {
		verdicts[mustAgree(t, anyText(pick, 65530+pick(10)))]++
	}
	if verdicts[api.OK] < 1000 || verdicts[api.ErrForm] < 1000 || verdicts[api.ErrLong] < 5 {
		t.Error(verdicts)
	}
}

// anyText returns a text of n bytes with few forbidden bytes outside of comments.
func anyText(pick func(int) int, n int) string {
	b := make([]byte, n)
	comment := false
	for i := range b {
		switch {
		case pick(5) == 0:
			b[i] = " \t\n\n;"[pick(5)]
		case comment || pick(2*n) == 0:
			b[i] = byte(pick(256))
		default:
			b[i] = byte(33 + pick(94))
		}
		comment = b[i] != '\n' && (comment || b[i] == ';')
	}
	return string(b)
}

// TestLineNumbers has a word in every line, in every second one, and so on.
func TestLineNumbers(t *testing.T) {
	for step := 1; step <= 12; step++ {
		var text strings.Builder
		var want []Line
		for n := 1; n <= 2000; n++ {
			if n%step == 0 {
				text.WriteString("w" + strconv.Itoa(n))
				want = append(want, Line{N: n, Words: []string{"w" + strconv.Itoa(n)}})
			}
			text.WriteString("\n")
		}
		mustLex(t, text.String(), want...)
	}
}

// Rules 3, 4 and 7

func TestLinesAreIndependent(t *testing.T) {
	text := "a b\nc d\ne f"
	one, _, _ := Lines(text)
	two, _, _ := Lines(text)
	if !same(one, two) {
		t.Errorf("%v and %v", one, two)
	}
	spoil(one)
	Lines("x y\nz\x01")
	if !same(two, lined("1 a b", "2 c d", "3 e f")) {
		t.Errorf("a result of Lines became %v", two)
	}
}
