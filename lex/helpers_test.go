package lex

import (
	"math"
	"slices"
	"strconv"
	"strings"
	"testing"
	"unsafe"

	"busbar/api"
)

// outside are ints that are neither a limit of Number nor the number of a line
// of a text; some would be one if they lost their sign or their upper bits.
var outside = []int{
	-1, -2, -255, -1000000, 1000001, 1000002, 1 << 31, 1 << 32, 1<<32 + 1, 1<<32 + 255, -1 << 31, -1 << 32, -1<<32 + 255,
	math.MinInt, math.MinInt + 1, math.MinInt + 255, math.MaxInt - 1, math.MaxInt,
}

// lined returns the lines of texts such as "3 rung a": the number of a line and
// its words.
func lined(texts ...string) []Line {
	var l []Line
	for _, t := range texts {
		words := strings.Split(t, " ")
		n, err := strconv.Atoi(words[0])
		if err != nil {
			panic(t + " is no line")
		}
		l = append(l, Line{N: n, Words: words[1:]})
	}
	return l
}

// twin returns lines equal to l that share no memory with them.
func twin(l []Line) []Line {
	l = slices.Clone(l)
	for i := range l {
		l[i].Words = slices.Clone(l[i].Words)
	}
	return l
}

func same(a, b []Line) bool {
	return slices.EqualFunc(a, b, func(x, y Line) bool { return x.N == y.N && slices.Equal(x.Words, y.Words) })
}

// wordsOf returns lines with the numbers 1, 2 and so on and the words of those
// of l that have words.
func wordsOf(l []Line) []Line {
	var only []Line
	for _, x := range l {
		if len(x.Words) > 0 {
			only = append(only, Line{N: len(only) + 1, Words: x.Words})
		}
	}
	return only
}

// spoil overwrites all the memory of lines, also beyond its length.
func spoil(l []Line) {
	for _, x := range l {
		for i := range x.Words[:cap(x.Words)] {
			x.Words[:cap(x.Words)][i] = "spoilt"
		}
	}
	clear(l[:cap(l)])
}

// excerpt returns the first bytes of a text, for messages.
func excerpt(text string) string { return strconv.Quote(text[:min(len(text), 60)]) }

// shares reports whether a text shares memory with a part of it.
func shares(text, part string) bool {
	if text == "" || part == "" {
		return false
	}
	first := uintptr(unsafe.Pointer(unsafe.StringData(text)))
	at := uintptr(unsafe.Pointer(unsafe.StringData(part)))
	return at >= first && at < first+uintptr(len(text))
}

// mustLex checks that a text has these lines, and that they are new memory.
func mustLex(t testing.TB, text string, want ...Line) {
	t.Helper()
	for range 2 {
		l, n, e := Lines(text)
		if n != 0 || e != api.OK || !same(l, want) {
			t.Fatalf("Lines of %s = %.200v, %d, %v, want %.200v", excerpt(text), l, n, e, want)
		}
		mustBeNew(t, text, l)
		spoil(l)
	}
}

// mustBeNew checks that no word of the lines shares memory with the text, and no
// line with another.
func mustBeNew(t testing.TB, text string, l []Line) {
	t.Helper()
	before := twin(l)
	for i, x := range l {
		if slices.ContainsFunc(x.Words, func(word string) bool { return shares(text, word) }) {
			t.Fatalf("a word of line %d of %s lies within the text", x.N, excerpt(text))
		}
		_ = append(x.Words, "more")
		if i+1 < len(l) && !slices.Equal(l[i+1].Words, before[i+1].Words) {
			t.Fatalf("line %d of %s ends within the next", x.N, excerpt(text))
		}
	}
}

// mustNotLex checks the error of Lines and what is beside it.
func mustNotLex(t testing.TB, text string, wantN int, want api.Errno) {
	t.Helper()
	for range 2 {
		if l, n, e := Lines(text); n != wantN || e != want || len(l) != 0 {
			t.Fatalf("Lines of %d bytes %s = %.200v, %d, %v, want %d, %v", len(text), excerpt(text), l, n, e, wantN, want)
		}
	}
}

// mustBeName checks whether IsName takes a word as a name.
func mustBeName(t testing.TB, word string, want bool) {
	t.Helper()
	if ok := IsName(word); ok != want {
		t.Fatalf("IsName of %s = %v", excerpt(word), ok)
	}
}

// mustNumber checks the results of Number.
func mustNumber(t testing.TB, word string, most, want int, wantErr api.Errno) {
	t.Helper()
	if n, e := Number(word, most); n != want || e != wantErr {
		t.Fatalf("Number of %s with most %d = %d, %v, want %d, %v", excerpt(word), most, n, e, want, wantErr)
	}
}

// mustJoin checks the result of Join on lines, behind which and behind whose
// words there is further memory, and that none of it is changed.
func mustJoin(t testing.TB, want string, l ...Line) {
	t.Helper()
	given := append(twin(l), Line{N: 1, Words: []string{"behind"}})
	for i, x := range given {
		given[i].Words = append(slices.Clone(x.Words), "behind")
	}
	all := twin(given)
	for i, x := range all {
		given[i].Words = x.Words[:len(x.Words)-1]
	}
	before := twin(all)
	for range 2 {
		if text := Join(given[:len(l)]...); text != want {
			t.Fatalf("Join of %.200v = %s, want %s", l, excerpt(text), excerpt(want))
		}
	}
	for i := range given {
		given[i].Words = given[i].Words[:len(given[i].Words)+1]
	}
	if !same(given, before) {
		t.Fatalf("Join of %.200v changes the lines", l)
	}
}

// every calls try with each text of at most most bytes over an alphabet.
func every(alphabet string, most int, try func(text string)) {
	var extend func(text string)
	extend = func(text string) {
		try(text)
		if len(text) == most {
			return
		}
		for i := range len(alphabet) {
			extend(text + alphabet[i:i+1])
		}
	}
	extend("")
}

// numbersOf returns a source of numbers that are always the same and look
// random: the source returns one from 0 to n-1.
func numbersOf(seed uint64) func(n int) int {
	return func(n int) int {
		seed = seed*6364136223846793005 + 1442695040888963407
		return int(seed >> 33 % uint64(n))
	}
}
