package image

import (
	"math"
	"slices"
	"strings"
	"testing"

	"busbar/api"
)

// bits returns the image with one bit for each character of t, true for 1.
func bits(t string) []bool {
	var l []bool
	for _, c := range t {
		l = append(l, c == '1')
	}
	return l
}

// samples returns all images of up to 5 bits and some longer ones.
func samples() [][]bool {
	l := [][]bool{
		nil,
		{},
		bits(strings.Repeat("1", 64)),
		bits(strings.Repeat("01", 128)),
		bits(strings.Repeat("0", api.MaxSlots)),
		bits(strings.Repeat("110", api.MaxSlots)),
	}
	for size := 1; size <= 5; size++ {
		for n := range 1 << size {
			var image []bool
			for i := range size {
				image = append(image, n>>i&1 == 1)
			}
			l = append(l, image)
		}
	}
	return l
}

// indices returns the indices to be tried on an image: those that are valid in
// a short image, the limits of those that are valid in l, and extreme ones.
func indices(l []bool) []int {
	return []int{
		0, 1, 2, 3, 4, 5,
		len(l)/2 - 1, len(l) / 2, len(l) - 2, len(l) - 1, len(l), len(l) + 1, cap(l),
		-1, -2, -len(l),
		api.MaxSlots, 1 << 31, 1 << 32, -1 << 31, -1 << 32,
		math.MinInt, math.MinInt + 1, math.MaxInt - 1, math.MaxInt,
	}
}

// P2.1

func TestGet(t *testing.T) {
	l := bits("1011")
	for n, want := range []bool{true, false, true, true} {
		if v, e := Get(l, n); v != want || e != api.OK {
			t.Errorf("Get(1011, %d) = %v, %v", n, v, e)
		}
	}
}

func TestGetIndices(t *testing.T) {
	for _, l := range samples() {
		for _, n := range indices(l) {
			want, wantErr := false, api.ErrRange
			if n >= 0 && n < len(l) {
				want, wantErr = l[n], api.OK
			}
			if v, e := Get(l, n); v != want || e != wantErr {
				t.Errorf("Get of %d in %d bits = %v, %v, want %v, %v", n, len(l), v, e, want, wantErr)
			}
		}
	}
}

func TestSet(t *testing.T) {
	for _, c := range []struct {
		image string
		n     int
		v     bool
		want  string
	}{
		{"0", 0, true, "1"},
		{"0", 0, false, "0"},
		{"1", 0, true, "1"},
		{"1", 0, false, "0"},
		{"101", 0, false, "001"},
		{"101", 1, true, "111"},
		{"101", 1, false, "101"},
		{"101", 2, false, "100"},
		{"0000", 3, true, "0001"},
	} {
		if l, e := Set(bits(c.image), c.n, c.v); !slices.Equal(l, bits(c.want)) || e != api.OK {
			t.Errorf("Set(%s, %d, %v) = %v, %v", c.image, c.n, c.v, l, e)
		}
	}
}

func checkSet(t *testing.T, l []bool, n int, v bool) {
	t.Helper()
	before := slices.Clone(l)
	got, e := Set(l, n, v)
	if !slices.Equal(l, before) {
		t.Errorf("Set of %d in %d bits changed its argument", n, len(l))
	}
	if n < 0 || n >= len(l) {
		if e != api.ErrRange || len(got) != 0 {
			t.Errorf("Set of %d in %d bits = %d bits, %v", n, len(l), len(got), e)
		}
		return
	}
	before[n] = v
	if e != api.OK || !slices.Equal(got, before) {
		t.Errorf("Set of %d in %d bits to %v: %v", n, len(l), v, e)
	}
}

func TestSetIndices(t *testing.T) {
	for _, l := range samples() {
		for _, n := range indices(l) {
			checkSet(t, l, n, false)
			checkSet(t, l, n, true)
		}
	}
}

func TestGetAndSetStayWithinLength(t *testing.T) {
	whole := bits("010111")
	l := whole[1:3]
	for _, n := range []int{-1, 2, 3, 4} {
		if v, e := Get(l, n); v || e != api.ErrRange {
			t.Errorf("Get of %d = %v, %v", n, v, e)
		}
		if got, e := Set(l, n, false); len(got) != 0 || e != api.ErrRange {
			t.Errorf("Set of %d = %v, %v", n, got, e)
		}
	}
	if got, e := Set(l, 0, false); !slices.Equal(got, bits("00")) || e != api.OK {
		t.Errorf("Set of 0 = %v, %v", got, e)
	}
	if !slices.Equal(whole, bits("010111")) {
		t.Errorf("the image around the argument is now %v", whole)
	}
}

// TestSetAllocates changes all of a result, also beyond its length, to see
// whether the argument or another result changes with it. The value that is
// set is the one that the bit has, for which a copy might seem unnecessary.
func TestSetAllocates(t *testing.T) {
	for _, spare := range []int{0, 10} {
		l := append(make([]bool, 0, 3+spare), true, false, true)
		for n, v := range l {
			one, _ := Set(l, n, v)
			two, _ := Set(l, n, v)
			one = one[:cap(one)]
			for i := range one {
				one[i] = !one[i]
			}
			if !slices.Equal(l, bits("101")) || slices.Contains(l[3:cap(l)], true) {
				t.Errorf("the result of Set(101, %d, %v) shares memory with its argument", n, v)
			}
			if !slices.Equal(two, bits("101")) {
				t.Errorf("two results of Set(101, %d, %v) share memory", n, v)
			}
		}
	}
}

func TestSetDoesNotKeepItsArgument(t *testing.T) {
	l := bits("0000")
	got, _ := Set(l, 1, true)
	for i := range l {
		l[i] = true
	}
	if !slices.Equal(got, bits("0100")) {
		t.Errorf("the result changed with the argument to %v", got)
	}
}

// P2.2

func TestFormat(t *testing.T) {
	for _, c := range []struct {
		l    []bool
		want string
	}{
		{nil, "-"},
		{[]bool{}, "-"},
		{[]bool{false}, "0"},
		{[]bool{true}, "1"},
		{[]bool{true, false, true}, "101"},
		{[]bool{false, true, true, false}, "0110"},
		{make([]bool, 8), "00000000"},
		{bits("10000011")[2:4], "00"},
		{bits("111")[:0], "-"},
		{make([]bool, api.MaxSlots+1), strings.Repeat("0", api.MaxSlots+1)},
	} {
		if got := Format(c.l); got != c.want {
			t.Errorf("Format of %d bits = %.40q, want %.40q", len(c.l), got, c.want)
		}
	}
}

func TestParse(t *testing.T) {
	for _, c := range []struct {
		text string
		want []bool
	}{
		{"-", nil},
		{"0", []bool{false}},
		{"1", []bool{true}},
		{"101", []bool{true, false, true}},
		{"0110", []bool{false, true, true, false}},
		{"00000000", make([]bool, 8)},
	} {
		if l, e := Parse(c.text); !slices.Equal(l, c.want) || e != api.OK {
			t.Errorf("Parse(%q) = %v, %v", c.text, l, e)
		}
	}
}

func TestFormatAndParse(t *testing.T) {
	for _, l := range samples() {
		before := slices.Clone(l)
		text := Format(l)
		if !slices.Equal(l, before) {
			t.Errorf("Format of %d bits changed its argument", len(l))
		}
		got, e := Parse(text)
		if len(l) > api.MaxSlots {
			if e != api.ErrLong || len(got) != 0 {
				t.Errorf("Parse of %d bits = %d bits, %v", len(l), len(got), e)
			}
			continue
		}
		if e != api.OK || !slices.Equal(got, l) {
			t.Errorf("Parse(%.40q) = %d bits, %v", text, len(got), e)
		}
	}
}

func wantError(t *testing.T, text string, want api.Errno) {
	t.Helper()
	if l, e := Parse(text); e != want || len(l) != 0 {
		t.Errorf("Parse(%.40q) = %d bits, %v, want %v", text, len(l), e, want)
	}
}

func TestParseForm(t *testing.T) {
	for _, text := range []string{
		"", " ", "--", "---", "-0", "0-", "1-", "-1", "1-0", "- ", " -", "-\n",
		"2", "/", "01/", "102", "210", "1012", "a", "T", "true",
		" 101", "101 ", "1 01", "101\n", "1\x0001", "\x00", "\x01", "10\x01", "+1", "1,0",
		"\xff", "1\xb0", "\x81", "１", "०", "1١", "−", "–",
	} {
		wantError(t, text, api.ErrForm)
	}
}

// TestParseOtherBytes tries each byte alone, between bits, and at the ends.
func TestParseOtherBytes(t *testing.T) {
	for b := range 256 {
		if b == '0' || b == '1' {
			continue
		}
		c := string([]byte{byte(b)})
		for _, text := range []string{c, "0" + c + "1", c + "10", "10" + c} {
			if text != "-" {
				wantError(t, text, api.ErrForm)
			}
		}
	}
}

func TestParseLength(t *testing.T) {
	for _, length := range []int{api.MaxSlots - 1, api.MaxSlots} {
		for _, digit := range []string{"0", "1"} {
			l, e := Parse(strings.Repeat(digit, length))
			if e != api.OK || len(l) != length || slices.Contains(l, digit == "0") {
				t.Errorf("Parse of %d times %s = %d bits, %v", length, digit, len(l), e)
			}
		}
	}
	for _, length := range []int{api.MaxSlots + 1, api.MaxSlots + 2, 2 * api.MaxSlots, 100 * api.MaxSlots} {
		wantError(t, strings.Repeat("0", length), api.ErrLong)
		wantError(t, strings.Repeat("1", length), api.ErrLong)
	}
}

// TestParseCountsBytes tries texts whose number of characters is below the
// limit, but whose number of bytes is not.
func TestParseCountsBytes(t *testing.T) {
	wantError(t, strings.Repeat("é", api.MaxSlots/2), api.ErrForm)
	wantError(t, strings.Repeat("é", api.MaxSlots/2)+"1", api.ErrLong)
}

func TestParseLongPrecedesForm(t *testing.T) {
	ones := strings.Repeat("1", api.MaxSlots)
	for _, text := range []string{"2" + ones, ones + "2", ones + "-", strings.Repeat("-", api.MaxSlots+1), strings.Repeat("\xff", api.MaxSlots+1)} {
		wantError(t, text, api.ErrLong)
	}
	for _, text := range []string{"2" + ones[1:], ones[1:] + "2", ones[1:] + "-", strings.Repeat("-", api.MaxSlots)} {
		wantError(t, text, api.ErrForm)
	}
}

func TestParseAllocates(t *testing.T) {
	one, _ := Parse("0110")
	two, _ := Parse("0110")
	for i := range one {
		one[i] = !one[i]
	}
	if !slices.Equal(two, bits("0110")) {
		t.Error("two results of Parse share memory")
	}
}

// P2.3

func TestEqual(t *testing.T) {
	for _, c := range []struct {
		a, b []bool
		want bool
	}{
		{nil, nil, true},
		{nil, []bool{}, true},
		{[]bool{}, nil, true},
		{nil, []bool{false}, false},
		{[]bool{false}, []bool{}, false},
		{bits("101"), bits("101"), true},
		{bits("101"), bits("100"), false},
		{bits("101"), bits("001"), false},
		{bits("101"), bits("111"), false},
		{bits("101"), bits("1010"), false},
		{bits("1010"), bits("101"), false},
		{bits("0"), bits("00"), false},
		{bits("10100")[:3], bits("10111")[:3], true},
		{bits("1011"), bits("01011")[1:], true},
	} {
		if got := Equal(c.a, c.b); got != c.want {
			t.Errorf("Equal(%v, %v) = %v", c.a, c.b, got)
		}
	}
}

func TestDiff(t *testing.T) {
	for _, c := range []struct {
		a, b []bool
		want []int
	}{
		{nil, nil, nil},
		{nil, []bool{}, nil},
		{[]bool{}, nil, nil},
		{bits("0"), bits("0"), nil},
		{bits("0"), bits("1"), []int{0}},
		{bits("1"), bits("0"), []int{0}},
		{bits("101"), bits("111"), []int{1}},
		{bits("101"), bits("101"), nil},
		{bits("101"), bits("000"), []int{0, 2}},
		{bits("0011"), bits("0101"), []int{1, 2}},
		{bits("0000"), bits("1111"), []int{0, 1, 2, 3}},
		{bits("00001"), bits("00000"), []int{4}},
		{bits("1011")[:2], bits("1100")[:2], []int{1}},
	} {
		if l, e := Diff(c.a, c.b); e != api.OK || !slices.Equal(l, c.want) {
			t.Errorf("Diff(%v, %v) = %v, %v, want %v", c.a, c.b, l, e, c.want)
		}
	}
}

func TestDiffOfDifferentLengths(t *testing.T) {
	for _, c := range [][2][]bool{
		{nil, bits("0")},
		{bits("0"), {}},
		{bits("1"), nil},
		{bits("101"), bits("10")},
		{bits("10"), bits("101")},
		{bits("0000"), bits("1111")[:3]},
		{make([]bool, api.MaxSlots), make([]bool, api.MaxSlots+1)},
	} {
		if l, e := Diff(c[0], c[1]); e != api.ErrArg || len(l) != 0 {
			t.Errorf("Diff of %d and %d bits = %v, %v", len(c[0]), len(c[1]), l, e)
		}
	}
}

func TestCount(t *testing.T) {
	for _, c := range []struct {
		l    []bool
		want int
	}{
		{nil, 0},
		{[]bool{}, 0},
		{bits("0"), 0},
		{bits("1"), 1},
		{bits("101"), 2},
		{bits("0110"), 2},
		{bits("1000000"), 1},
		{bits("0000001"), 1},
		{bits("10111")[:2], 1},
		{bits(strings.Repeat("1", 300)), 300},
		{bits(strings.Repeat("01", api.MaxSlots)), api.MaxSlots},
	} {
		if n := Count(c.l); n != c.want {
			t.Errorf("Count of %d bits = %d, want %d", len(c.l), n, c.want)
		}
	}
}

func checkPair(t *testing.T, a, b []bool) {
	t.Helper()
	beforeA, beforeB := slices.Clone(a), slices.Clone(b)
	if got := Equal(a, b); got != slices.Equal(a, b) {
		t.Errorf("Equal(%v, %v) = %v", a, b, got)
	}
	var want []int
	wantErr := api.ErrArg
	if len(a) == len(b) {
		wantErr = api.OK
		for i := range a {
			if a[i] != b[i] {
				want = append(want, i)
			}
		}
	}
	if l, e := Diff(a, b); e != wantErr || !slices.Equal(l, want) {
		t.Errorf("Diff(%v, %v) = %v, %v, want %v, %v", a, b, l, e, want, wantErr)
	}
	Count(a)
	if !slices.Equal(a, beforeA) || !slices.Equal(b, beforeB) {
		t.Errorf("Equal, Diff or Count changed an argument: %v, %v", beforeA, beforeB)
	}
}

func TestAllShortPairs(t *testing.T) {
	for _, a := range samples() {
		for _, b := range samples() {
			if len(a) <= 5 && len(b) <= 5 {
				checkPair(t, a, b)
			}
		}
	}
}

func TestDiffAllocates(t *testing.T) {
	a, b := bits("1111"), bits("0000")
	one, _ := Diff(a, b)
	two, _ := Diff(a, b)
	for i := range one {
		one[i] = -1
	}
	if !slices.Equal(two, []int{0, 1, 2, 3}) {
		t.Error("two results of Diff share memory")
	}
}
