package addr

import (
	"math"
	"strconv"
	"strings"
	"testing"

	"busbar/api"
)

// P1.1

func TestCheckSizeValid(t *testing.T) {
	for _, s := range []api.Size{
		{},
		{I: 8, Q: 4, M: 16, E: 3},
		{I: 256},
		{Q: 256},
		{M: 256},
		{E: 16384},
		{I: 256, Q: 256, M: 256, E: 16384},
	} {
		if e := CheckSize(s); e != api.OK {
			t.Errorf("CheckSize(%v) = %v", s, e)
		}
	}
}

func TestCheckSizeInvalid(t *testing.T) {
	for _, bits := range []int{-1, 257, 1000, 16384, math.MinInt, math.MaxInt} {
		for _, s := range []api.Size{{I: bits}, {Q: bits}, {M: bits}} {
			if e := CheckSize(s); e != api.ErrRange {
				t.Errorf("CheckSize(%v) = %v", s, e)
			}
		}
	}
	for _, slots := range []int{-1, 16385, math.MinInt, math.MaxInt} {
		if e := CheckSize(api.Size{E: slots}); e != api.ErrRange {
			t.Errorf("CheckSize with E %d = %v", slots, e)
		}
	}
}

func TestWidth(t *testing.T) {
	for _, s := range []api.Size{
		{I: 1, Q: 2, M: 3, E: 4},
		{I: 256, Q: 0, M: 255, E: 16384},
		{I: -7, Q: math.MaxInt, M: math.MinInt, E: 5},
	} {
		for space, want := range map[int]int{
			api.Input: s.I, api.Output: s.Q, api.Memory: s.M,
			-1: 0, 3: 0, 4: 0, math.MinInt: 0, math.MaxInt: 0,
		} {
			if w := Width(s, space); w != want {
				t.Errorf("Width(%v, %d) = %d, want %d", s, space, w, want)
			}
		}
	}
}

// P1.2

func TestCheckAddr(t *testing.T) {
	s := api.Size{I: 1, Q: 8, M: 0, E: 100}
	for _, c := range []struct {
		a    api.Addr
		want api.Errno
	}{
		{api.Addr{Space: api.Input, N: 0}, api.OK},
		{api.Addr{Space: api.Input, N: 1}, api.ErrRange},
		{api.Addr{Space: api.Output, N: 0}, api.OK},
		{api.Addr{Space: api.Output, N: 7}, api.OK},
		{api.Addr{Space: api.Output, N: 8}, api.ErrRange},
		{api.Addr{Space: api.Memory, N: 0}, api.ErrRange},
		{api.Addr{Space: api.Output, N: -1}, api.ErrRange},
		{api.Addr{Space: api.Output, N: math.MinInt}, api.ErrRange},
		{api.Addr{Space: api.Output, N: math.MaxInt}, api.ErrRange},
		{api.Addr{Space: 3, N: 0}, api.ErrKind},
		{api.Addr{Space: -1, N: 0}, api.ErrKind},
		{api.Addr{Space: math.MinInt, N: 0}, api.ErrKind},
		{api.Addr{Space: math.MaxInt, N: 0}, api.ErrKind},
	} {
		if e := CheckAddr(s, c.a); e != c.want {
			t.Errorf("CheckAddr(%v, %v) = %v, want %v", s, c.a, e, c.want)
		}
	}
}

func TestCheckAddrKindPrecedesRange(t *testing.T) {
	for _, a := range []api.Addr{{Space: 3, N: -1}, {Space: -1, N: 300}} {
		if e := CheckAddr(api.Size{I: 1, Q: 1, M: 1}, a); e != api.ErrKind {
			t.Errorf("CheckAddr of %v = %v", a, e)
		}
	}
}

func TestCheckAddrDoesNotCheckSize(t *testing.T) {
	for _, c := range []struct {
		s    api.Size
		a    api.Addr
		want api.Errno
	}{
		{api.Size{I: 1000}, api.Addr{Space: api.Input, N: 999}, api.OK},
		{api.Size{I: 1000}, api.Addr{Space: api.Input, N: 1000}, api.ErrRange},
		{api.Size{I: 1, Q: -1, M: 257, E: -1}, api.Addr{Space: api.Input, N: 0}, api.OK},
		{api.Size{M: math.MaxInt}, api.Addr{Space: api.Memory, N: math.MaxInt - 1}, api.OK},
		{api.Size{Q: -5}, api.Addr{Space: api.Output, N: -6}, api.ErrRange},
		{api.Size{Q: -5}, api.Addr{Space: api.Output, N: 0}, api.ErrRange},
	} {
		if e := CheckAddr(c.s, c.a); e != c.want {
			t.Errorf("CheckAddr(%v, %v) = %v, want %v", c.s, c.a, e, c.want)
		}
	}
}

// P1.3

func TestFormatAndParseAllAddresses(t *testing.T) {
	for space, letter := range []string{"I", "Q", "M"} {
		for n := 0; n <= 255; n++ {
			a := api.Addr{Space: space, N: n}
			text := letter + strconv.Itoa(n)
			if f := Format(a); f != text {
				t.Errorf("Format(%v) = %q, want %q", a, f, text)
			}
			if p, e := Parse(text); p != a || e != api.OK {
				t.Errorf("Parse(%q) = %v, %v, want %v", text, p, e, a)
			}
		}
	}
}

func TestFormatWithoutTextualForm(t *testing.T) {
	for _, a := range []api.Addr{
		{Space: -1}, {Space: 3}, {Space: math.MinInt}, {Space: math.MaxInt},
		{Space: api.Input, N: -1}, {Space: api.Output, N: 256}, {Space: api.Memory, N: 257},
		{Space: api.Input, N: math.MinInt}, {Space: api.Memory, N: math.MaxInt},
	} {
		if f := Format(a); f != "" {
			t.Errorf("Format(%v) = %q", a, f)
		}
	}
}

func wantError(t *testing.T, text string, want api.Errno) {
	t.Helper()
	if a, e := Parse(text); e != want || a != (api.Addr{}) {
		t.Errorf("Parse(%.40q) = %v, %v, want %v", text, a, e, want)
	}
}

func TestParseForm(t *testing.T) {
	for _, text := range []string{
		"", "I", "Q", "M", "0", "12", "i0", "q1", "m2", "E0", "X1", "H0", "J0", "II1", "IQ",
		" I0", "I0 ", "I 0", "I0\n", "I0\x00", "\x00I0", "I+1", "I-1", "I-0", "I1.0", "I1_0", "I0x1", "I1e1",
		"I1x", "M25a", "M2a5", "I/", "I:", "I1/", "I1:",
		"\xff1", "I\xff", "Ι0", "I٣", "I１", "ＩI1",
	} {
		wantError(t, text, api.ErrForm)
	}
}

func TestParseLeadingZeros(t *testing.T) {
	for _, text := range []string{"I00", "Q01", "M007", "I0255", "M0256", "M0999", "I0" + strings.Repeat("9", 100), "I" + strings.Repeat("0", 1000)} {
		wantError(t, text, api.ErrForm)
	}
}

func TestParseRange(t *testing.T) {
	for _, text := range []string{
		"I256", "Q256", "M256", "I257", "Q260", "M300", "M999", "I1000", "I2550",
		"I4294967296", "Q4294967297", "M9223372036854775807", "M9223372036854775808",
		"I18446744073709551615", "I18446744073709551616", "Q18446744073709551617",
		"M99999999999999999999", "I1" + strings.Repeat("0", 100000),
	} {
		wantError(t, text, api.ErrRange)
	}
}

func TestParseFormPrecedesRange(t *testing.T) {
	for _, text := range []string{"I256x", "Q-256", "X256", "M999 ", "M" + strings.Repeat("9", 10000) + "x"} {
		wantError(t, text, api.ErrForm)
	}
}

// P1.4

func TestCompare(t *testing.T) {
	ordered := []api.Addr{
		{Space: math.MinInt, N: 9},
		{Space: -1, N: math.MaxInt},
		{Space: api.Input, N: math.MinInt},
		{Space: api.Input, N: -1},
		{Space: api.Input, N: 0},
		{Space: api.Input, N: 9},
		{Space: api.Input, N: 10},
		{Space: api.Output, N: 2},
		{Space: api.Output, N: 3},
		{Space: api.Memory, N: 0},
		{Space: api.Memory, N: 255},
		{Space: api.Memory, N: math.MaxInt},
		{Space: 3, N: 0},
		{Space: math.MaxInt, N: -5},
	}
	for i, a := range ordered {
		for j, b := range ordered {
			want := 0
			if i < j {
				want = -1
			} else if i > j {
				want = 1
			}
			if c := Compare(a, b); c != want {
				t.Errorf("Compare(%v, %v) = %d, want %d", a, b, c, want)
			}
		}
	}
}
