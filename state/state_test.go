package state

import (
	"math"
	"slices"
	"strings"
	"testing"

	"busbar/api"
)

// bits returns the image with one bit for each character of t, true for 1. A
// hyphen stands for no bits.
func bits(t string) []bool {
	var l []bool
	for _, c := range strings.Trim(t, "-") {
		l = append(l, c == '1')
	}
	return l
}

// parsed returns the state of a textual form.
func parsed(t string) api.State {
	l := strings.Fields(t)
	return api.State{Q: bits(l[0]), M: bits(l[1]), E: bits(l[2])}
}

// imagesIn returns pointers to the images of a state, in the order Q, M, E.
func imagesIn(st *api.State) [3]*[]bool { return [3]*[]bool{&st.Q, &st.M, &st.E} }

// same compares two states without the functions under test.
func same(a, b api.State) bool {
	return slices.Equal(a.Q, b.Q) && slices.Equal(a.M, b.M) && slices.Equal(a.E, b.E)
}

// isZero reports whether a state is the zero value, as it is beside an error.
func isZero(st api.State) bool { return len(st.Q) == 0 && len(st.M) == 0 && len(st.E) == 0 }

// twin returns a state equal to st that shares no memory with it.
func twin(st api.State) api.State {
	return api.State{Q: slices.Clone(st.Q), M: slices.Clone(st.M), E: slices.Clone(st.E)}
}

// spoil inverts all the memory of an image, also beyond its length.
func spoil(l []bool) {
	l = l[:cap(l)]
	for i := range l {
		l[i] = !l[i]
	}
}

// samples returns states of which some fit no sizes.
func samples() []api.State {
	l := []api.State{
		{},
		{Q: []bool{}, M: []bool{}, E: []bool{}},
		{Q: bits(strings.Repeat("10", 128)), M: bits(strings.Repeat("011", 85)), E: bits(strings.Repeat("1", api.MaxSlots))},
		{Q: bits(strings.Repeat("1", 257)), M: bits(strings.Repeat("01", 200)), E: bits(strings.Repeat("0", api.MaxSlots+1))},
	}
	for _, t := range []string{
		"0 0 0", "1 1 1", "1 - -", "- 1 -", "- - 1", "- 0 0", "0 - 0", "0 0 -",
		"00 000 0", "01 000 0", "10 110 1", "110 01 0011", "1 01 110", "1111 1111 1111",
	} {
		l = append(l, parsed(t))
	}
	return l
}

// extremes are ints that are neither an address space nor an index of an
// image; some would be one if they lost their upper or lower bits.
var extremes = []int{
	-1, -2, -3, -256, 1 << 16, 1 << 31, 1 << 32, 1<<32 + 1, 1<<32 + 2, -1 << 31, -1 << 32, -1<<32 + 1,
	math.MinInt, math.MinInt + 1, math.MinInt + 2, math.MaxInt - 1, math.MaxInt,
}

// spaces are ints of which three are address spaces.
func spaces() []int { return append([]int{0, 1, 2, 3, 4, 5, 255}, extremes...) }

// numbers returns the bit numbers to be tried on a state.
func numbers(in []bool, st api.State) []int {
	l := append([]int{0, 1, 2, 3, 4}, extremes...)
	for _, image := range [][]bool{in, st.Q, st.M, st.E} {
		l = append(l, len(image)-1, len(image), len(image)+1, cap(image))
	}
	slices.Sort(l)
	return slices.Compact(l)
}

// P3.1

func checkNew(t *testing.T, s api.Size) {
	t.Helper()
	st, e := New(s)
	if e != api.OK {
		t.Errorf("New(%v): %v", s, e)
		return
	}
	if len(st.Q) != s.Q || len(st.M) != s.M || len(st.E) != s.E {
		t.Errorf("New(%v) has %d, %d and %d bits", s, len(st.Q), len(st.M), len(st.E))
	}
	if slices.Contains(st.Q, true) || slices.Contains(st.M, true) || slices.Contains(st.E, true) {
		t.Errorf("New(%v) has true bits", s)
	}
	if !Fits(s, st) {
		t.Errorf("New(%v) does not fit its sizes", s)
	}
}

func TestNew(t *testing.T) {
	for _, s := range []api.Size{
		{},
		{I: 1, Q: 2, M: 3, E: 1},
		{I: 256},
		{Q: 1},
		{M: 1},
		{E: 1},
		{Q: 3, M: 2, E: 1},
		{I: 7, Q: 255, M: 254, E: 16383},
		{I: 256, Q: 256, M: 256, E: 16384},
		{Q: 256},
		{M: 256},
		{E: 257},
		{E: 16384},
	} {
		checkNew(t, s)
	}
}

// invalidSizes returns sizes of which one, or several, are out of range.
func invalidSizes() []api.Size {
	l := []api.Size{
		{I: -1, Q: -1, M: -1, E: -1},
		{I: 257, Q: 257, M: 257, E: 16385},
		{I: math.MinInt, Q: math.MaxInt, M: math.MinInt, E: math.MaxInt},
		{Q: -1, M: 257},
	}
	for _, n := range append([]int{257, 258, 512, 16384}, extremes...) {
		l = append(l, api.Size{I: n}, api.Size{Q: n}, api.Size{M: n})
		l = append(l, api.Size{I: n, Q: 2, M: 3, E: 1}, api.Size{I: 1, Q: n, M: 3, E: 1}, api.Size{I: 1, Q: 2, M: n, E: 1})
	}
	for _, n := range append([]int{16385, 16386, 32768}, extremes...) {
		l = append(l, api.Size{E: n}, api.Size{I: 1, Q: 2, M: 3, E: n})
	}
	return l
}

func TestNewInvalidSizes(t *testing.T) {
	for _, s := range invalidSizes() {
		if st, e := New(s); e != api.ErrRange || !isZero(st) {
			t.Errorf("New(%v) = %d, %d and %d bits, %v", s, len(st.Q), len(st.M), len(st.E), e)
		}
	}
}

func TestNewAllocates(t *testing.T) {
	s := api.Size{Q: 4, M: 4, E: 4}
	for i := range 3 {
		one, _ := New(s)
		two, _ := New(s)
		spoil(*imagesIn(&one)[i])
		*imagesIn(&one)[i] = make([]bool, 4)
		if !same(one, parsed("0000 0000 0000")) {
			t.Errorf("image %d of a new state shares memory with another one", i)
		}
		if !same(two, parsed("0000 0000 0000")) {
			t.Errorf("image %d is shared by two new states", i)
		}
	}
}

func TestFits(t *testing.T) {
	s := api.Size{I: 9, Q: 2, M: 3, E: 1}
	for _, c := range []struct {
		st   string
		want bool
	}{
		{"00 000 0", true},
		{"11 111 1", true},
		{"01 101 0", true},
		{"0 000 0", false},
		{"000 000 0", false},
		{"- 000 0", false},
		{"00 00 0", false},
		{"00 0000 0", false},
		{"00 - 0", false},
		{"00 000 -", false},
		{"00 000 00", false},
		{"000 00 0", false},
		{"00 0 000", false},
		{"0 000 00", false},
		{"- - -", false},
		{"00000 0 0", false},
	} {
		if got := Fits(s, parsed(c.st)); got != c.want {
			t.Errorf("Fits(%v, %s) = %v", s, c.st, got)
		}
	}
}

func TestFitsWithoutBits(t *testing.T) {
	empty := api.State{Q: []bool{}, M: []bool{}, E: []bool{}}
	mixed := api.State{Q: []bool{}, E: make([]bool, 0, 8)}
	for _, st := range []api.State{{}, empty, mixed} {
		for _, s := range []api.Size{{}, {I: 1}, {I: 256}} {
			if !Fits(s, st) {
				t.Errorf("Fits(%v, %v) = false", s, st)
			}
		}
		for _, s := range []api.Size{{Q: 1}, {M: 1}, {E: 1}, {E: 8}, {I: -1}, {I: 257}, {Q: -1}, {M: -1}, {E: -1}} {
			if Fits(s, st) {
				t.Errorf("Fits(%v, %v) = true", s, st)
			}
		}
	}
}

func TestFitsTheLimits(t *testing.T) {
	for _, c := range []struct {
		s    api.Size
		want bool
	}{
		{api.Size{I: 256, Q: 256, M: 256, E: 16384}, true},
		{api.Size{I: 255, Q: 255, M: 255, E: 16383}, true},
		{api.Size{Q: 256}, true},
		{api.Size{M: 256}, true},
		{api.Size{E: 16384}, true},
		{api.Size{I: 257, Q: 256, M: 256, E: 16384}, false},
		{api.Size{Q: 257}, false},
		{api.Size{M: 257}, false},
		{api.Size{E: 16385}, false},
		{api.Size{Q: 300, M: 300, E: 20000}, false},
	} {
		st := api.State{Q: make([]bool, c.s.Q), M: make([]bool, c.s.M), E: make([]bool, c.s.E)}
		if got := Fits(c.s, st); got != c.want {
			t.Errorf("Fits(%v, a state of these sizes) = %v", c.s, got)
		}
	}
}

func TestFitsInvalidSizes(t *testing.T) {
	for _, s := range invalidSizes() {
		for _, st := range append(samples(), parsed("00 000 0")) {
			if Fits(s, st) {
				t.Errorf("Fits(%v, %d, %d and %d bits) = true", s, len(st.Q), len(st.M), len(st.E))
			}
		}
	}
}

func TestFitsCountsLengths(t *testing.T) {
	st := api.State{Q: bits("1111")[:2], M: bits("1111")[1:3], E: make([]bool, 0, 5)}
	if !Fits(api.Size{Q: 2, M: 2}, st) {
		t.Error("the lengths of the images are not what counts")
	}
	if Fits(api.Size{Q: 4, M: 3, E: 5}, st) {
		t.Error("the capacities of the images count")
	}
}

// P3.2

func TestRead(t *testing.T) {
	in, st := bits("10"), parsed("010 0110 1")
	for _, c := range []struct {
		a    api.Addr
		want bool
		e    api.Errno
	}{
		{api.Addr{Space: api.Input, N: 0}, true, api.OK},
		{api.Addr{Space: api.Input, N: 1}, false, api.OK},
		{api.Addr{Space: api.Input, N: 2}, false, api.ErrRange},
		{api.Addr{Space: api.Output, N: 0}, false, api.OK},
		{api.Addr{Space: api.Output, N: 1}, true, api.OK},
		{api.Addr{Space: api.Output, N: 2}, false, api.OK},
		{api.Addr{Space: api.Output, N: 3}, false, api.ErrRange},
		{api.Addr{Space: api.Memory, N: 1}, true, api.OK},
		{api.Addr{Space: api.Memory, N: 2}, true, api.OK},
		{api.Addr{Space: api.Memory, N: 3}, false, api.OK},
		{api.Addr{Space: api.Memory, N: 4}, false, api.ErrRange},
		{api.Addr{Space: api.Memory, N: -1}, false, api.ErrRange},
		{api.Addr{Space: 3, N: 0}, false, api.ErrKind},
		{api.Addr{Space: 3, N: 9}, false, api.ErrKind},
		{api.Addr{Space: -1, N: 0}, false, api.ErrKind},
		{api.Addr{Space: -1, N: -1}, false, api.ErrKind},
	} {
		if v, e := Read(in, st, c.a); v != c.want || e != c.e {
			t.Errorf("Read of %v = %v, %v, want %v, %v", c.a, v, e, c.want, c.e)
		}
	}
}

// wantRead returns what Read has to return.
func wantRead(in []bool, st api.State, a api.Addr) (bool, api.Errno) {
	var image []bool
	switch a.Space {
	case 0:
		image = in
	case 1:
		image = st.Q
	case 2:
		image = st.M
	default:
		return false, api.ErrKind
	}
	if a.N < 0 || a.N >= len(image) {
		return false, api.ErrRange
	}
	return image[a.N], api.OK
}

func checkReads(t *testing.T, in []bool, st api.State) {
	t.Helper()
	beforeIn, before := slices.Clone(in), twin(st)
	for _, space := range spaces() {
		for _, n := range numbers(in, st) {
			a := api.Addr{Space: space, N: n}
			want, wantErr := wantRead(in, st, a)
			if v, e := Read(in, st, a); v != want || e != wantErr {
				t.Errorf("Read of %v = %v, %v, want %v, %v", a, v, e, want, wantErr)
			}
		}
	}
	if !slices.Equal(in, beforeIn) || !same(st, before) {
		t.Error("Read changed an argument")
	}
}

func TestReadAllAddresses(t *testing.T) {
	for _, st := range samples() {
		for _, in := range []string{"-", "1", "01", "1101", strings.Repeat("110", 100)} {
			checkReads(t, bits(in), st)
		}
		checkReads(t, []bool{}, st)
		checkReads(t, st.Q, st)
	}
}

// TestReadIgnoresLimits reads bits that no valid sizes have.
func TestReadIgnoresLimits(t *testing.T) {
	l := append(make([]bool, 300), true)
	for space := range 3 {
		if v, e := Read(l, api.State{Q: l, M: l}, api.Addr{Space: space, N: 300}); !v || e != api.OK {
			t.Errorf("Read of bit 300 in space %d = %v, %v", space, v, e)
		}
	}
}

func TestReadStaysWithinLength(t *testing.T) {
	l := bits("1111")[:2]
	for space := range 3 {
		if v, e := Read(l, api.State{Q: l, M: l, E: l}, api.Addr{Space: space, N: 2}); v || e != api.ErrRange {
			t.Errorf("Read beyond the length in space %d = %v, %v", space, v, e)
		}
	}
}

func TestWrite(t *testing.T) {
	for _, c := range []struct {
		st   string
		a    api.Addr
		v    bool
		want string
	}{
		{"00 000 0", api.Addr{Space: api.Memory, N: 1}, true, "00 010 0"},
		{"00 000 0", api.Addr{Space: api.Memory, N: 2}, true, "00 001 0"},
		{"00 000 0", api.Addr{Space: api.Output, N: 0}, true, "10 000 0"},
		{"00 000 0", api.Addr{Space: api.Output, N: 1}, true, "01 000 0"},
		{"11 111 1", api.Addr{Space: api.Output, N: 1}, false, "10 111 1"},
		{"11 111 1", api.Addr{Space: api.Memory, N: 0}, false, "11 011 1"},
		{"11 111 1", api.Addr{Space: api.Memory, N: 0}, true, "11 111 1"},
		{"01 010 1", api.Addr{Space: api.Output, N: 0}, false, "01 010 1"},
		{"1 - -", api.Addr{Space: api.Output}, false, "0 - -"},
		{"- 0 -", api.Addr{Space: api.Memory}, true, "- 1 -"},
	} {
		if st, e := Write(parsed(c.st), c.a, c.v); e != api.OK || !same(st, parsed(c.want)) {
			t.Errorf("Write(%s, %v, %v) = %v, %v", c.st, c.a, c.v, st, e)
		}
	}
}

func TestWriteErrors(t *testing.T) {
	for _, c := range []struct {
		st   string
		a    api.Addr
		want api.Errno
	}{
		{"01 010 1", api.Addr{Space: api.Input, N: 0}, api.ErrKind},
		{"01 010 1", api.Addr{Space: api.Input, N: 5}, api.ErrKind},
		{"01 010 1", api.Addr{Space: api.Input, N: -1}, api.ErrKind},
		{"01 010 1", api.Addr{Space: 3, N: 0}, api.ErrKind},
		{"01 010 1", api.Addr{Space: 3, N: 1}, api.ErrKind},
		{"01 010 1", api.Addr{Space: -1, N: 0}, api.ErrKind},
		{"01 010 1", api.Addr{Space: -1, N: 9}, api.ErrKind},
		{"01 010 1", api.Addr{Space: api.Output, N: 2}, api.ErrRange},
		{"01 010 1", api.Addr{Space: api.Memory, N: 3}, api.ErrRange},
		{"01 010 1", api.Addr{Space: api.Output, N: -1}, api.ErrRange},
		{"01 010 1", api.Addr{Space: api.Memory, N: -1}, api.ErrRange},
		{"- 010 1", api.Addr{Space: api.Output, N: 0}, api.ErrRange},
		{"01 - 1", api.Addr{Space: api.Memory, N: 0}, api.ErrRange},
		{"- - -", api.Addr{}, api.ErrKind},
	} {
		for _, v := range []bool{false, true} {
			if st, e := Write(parsed(c.st), c.a, v); e != c.want || !isZero(st) {
				t.Errorf("Write(%s, %v, %v) = %v, %v, want %v", c.st, c.a, v, st, e, c.want)
			}
		}
	}
}

// wantWrite returns what Write has to return.
func wantWrite(st api.State, a api.Addr, v bool) (api.State, api.Errno) {
	if a.Space != 1 && a.Space != 2 {
		return api.State{}, api.ErrKind
	}
	want := twin(st)
	image := *imagesIn(&want)[a.Space-1]
	if a.N < 0 || a.N >= len(image) {
		return api.State{}, api.ErrRange
	}
	image[a.N] = v
	return want, api.OK
}

func TestWriteAllAddresses(t *testing.T) {
	for _, st := range samples() {
		before := twin(st)
		for _, space := range spaces() {
			for _, n := range numbers(nil, st) {
				for _, v := range []bool{false, true} {
					a := api.Addr{Space: space, N: n}
					want, wantErr := wantWrite(st, a, v)
					got, e := Write(st, a, v)
					if e != wantErr || !same(got, want) {
						t.Errorf("Write of %v = %v, want %v", a, e, wantErr)
					}
				}
			}
		}
		if !same(st, before) {
			t.Error("Write changed its argument")
		}
	}
}

func TestWriteIgnoresLimits(t *testing.T) {
	st := api.State{Q: make([]bool, 301), M: make([]bool, 302), E: make([]bool, 20000)}
	for space := 1; space <= 2; space++ {
		want := twin(st)
		(*imagesIn(&want)[space-1])[300] = true
		if got, e := Write(st, api.Addr{Space: space, N: 300}, true); e != api.OK || !same(got, want) {
			t.Errorf("Write of bit 300 in space %d: %v", space, e)
		}
	}
}

// roomy returns an equal state whose images have spare capacity.
func roomy(st api.State, spare int) api.State {
	for _, l := range imagesIn(&st) {
		*l = append(make([]bool, 0, len(*l)+spare), *l...)
	}
	return st
}

// checkSeparate spoils each image of the results of call in turn, to see
// whether the argument, another result, or another image changes with it.
func checkSeparate(t *testing.T, st api.State, name string, call func() api.State) {
	t.Helper()
	before, want := twin(st), twin(call())
	for i := range 3 {
		one, two := call(), call()
		spoil(*imagesIn(&one)[i])
		*imagesIn(&one)[i] = *imagesIn(&want)[i]
		if !same(one, want) {
			t.Errorf("%s: image %d shares memory with another image of the result", name, i)
		}
		if !same(two, want) {
			t.Errorf("%s: image %d is shared by two results", name, i)
		}
		if !same(st, before) {
			t.Errorf("%s: image %d shares memory with the argument", name, i)
		}
		for j, l := range imagesIn(&st) {
			if slices.Contains((*l)[len(*l):cap(*l)], true) {
				t.Errorf("%s: image %d shares memory with image %d beyond its length", name, i, j)
			}
		}
		for _, l := range imagesIn(&st) {
			spoil(*l)
		}
		if !same(two, want) {
			t.Errorf("%s: a result changed with the argument", name)
		}
		for _, l := range imagesIn(&st) {
			spoil(*l)
		}
	}
}

// TestWriteAllocates also writes the value that a bit has, for which a copy
// might seem unnecessary.
func TestWriteAllocates(t *testing.T) {
	for _, spare := range []int{0, 10} {
		st := roomy(parsed("010 011 101"), spare)
		for space := 1; space <= 2; space++ {
			for n := range 3 {
				for _, v := range []bool{false, true} {
					checkSeparate(t, st, "Write", func() api.State {
						got, _ := Write(st, api.Addr{Space: space, N: n}, v)
						return got
					})
				}
			}
		}
	}
}

// TestWriteToSharedImages writes to states whose images are one slice, or
// pieces of one slice.
func TestWriteToSharedImages(t *testing.T) {
	l := bits("0000")
	st := api.State{Q: l, M: l, E: l}
	if got, e := Write(st, api.Addr{Space: api.Output, N: 1}, true); e != api.OK || !same(got, parsed("0100 0000 0000")) {
		t.Errorf("Write to an output of one slice = %v, %v", got, e)
	}
	if got, e := Write(st, api.Addr{Space: api.Memory, N: 2}, true); e != api.OK || !same(got, parsed("0000 0010 0000")) {
		t.Errorf("Write to a memory bit of one slice = %v, %v", got, e)
	}
	pieces := api.State{Q: l[:2], M: l[1:3], E: l[2:]}
	if got, e := Write(pieces, api.Addr{Space: api.Memory, N: 0}, true); e != api.OK || !same(got, parsed("00 10 00")) {
		t.Errorf("Write to pieces of one slice = %v, %v", got, e)
	}
	if got, e := Write(pieces, api.Addr{Space: api.Output, N: 2}, true); e != api.ErrRange || !isZero(got) {
		t.Errorf("Write beyond a piece of one slice = %v, %v", got, e)
	}
	if slices.Contains(l, true) {
		t.Errorf("the slice is now %v", l)
	}
}

// P3.3

func TestEqual(t *testing.T) {
	for _, c := range []struct {
		a, b string
		want bool
	}{
		{"- - -", "- - -", true},
		{"01 000 0", "01 000 0", true},
		{"01 101 1", "01 101 1", true},
		{"01 000 0", "00 000 0", false},
		{"01 000 0", "11 000 0", false},
		{"01 001 0", "01 000 0", false},
		{"01 000 0", "01 100 0", false},
		{"01 000 0", "01 000 1", false},
		{"01 000 00", "01 000 01", false},
		{"01 000 0", "010 000 0", false},
		{"01 000 0", "0 000 0", false},
		{"01 000 0", "01 00 0", false},
		{"01 000 0", "01 0000 0", false},
		{"01 000 0", "01 000 -", false},
		{"01 000 0", "01 000 00", false},
		{"1 - -", "- 1 -", false},
		{"- 1 -", "- - 1", false},
		{"1 0 0", "0 1 0", false},
		{"1 0 0", "0 0 1", false},
		{"0 1 0", "0 0 1", false},
		{"01 0 1", "0 10 1", false},
		{"1 1 1", "- - -", false},
		{"0 - -", "- - -", false},
		{"- 0 -", "- - -", false},
		{"- - 0", "- - -", false},
	} {
		a, b := parsed(c.a), parsed(c.b)
		if Equal(a, b) != c.want || Equal(b, a) != c.want {
			t.Errorf("Equal(%s, %s) = %v, %v", c.a, c.b, Equal(a, b), Equal(b, a))
		}
	}
}

func TestEqualWithoutBits(t *testing.T) {
	l := []api.State{{}, {Q: []bool{}}, {M: []bool{}}, {E: []bool{}}, {Q: bits("11")[:0], M: make([]bool, 0, 4), E: []bool{}}}
	for _, a := range l {
		for _, b := range l {
			if !Equal(a, b) {
				t.Errorf("Equal(%v, %v) = false", a, b)
			}
		}
	}
}

func TestEqualAllPairs(t *testing.T) {
	for i, a := range samples() {
		for j, b := range samples() {
			beforeA, beforeB := twin(a), twin(b)
			if got := Equal(a, b); got != same(a, b) {
				t.Errorf("Equal of samples %d and %d = %v", i, j, got)
			}
			if !same(a, beforeA) || !same(b, beforeB) {
				t.Errorf("Equal of samples %d and %d changed an argument", i, j)
			}
		}
	}
}

func TestEqualStaysWithinLength(t *testing.T) {
	l, m := bits("1011"), bits("1000")
	if !Equal(api.State{Q: l[:2], M: l[:2], E: l[:2]}, api.State{Q: m[:2], M: m[:2], E: m[:2]}) {
		t.Error("bits beyond the lengths of the images make two states different")
	}
}

func TestClone(t *testing.T) {
	for i, st := range samples() {
		before := twin(st)
		if got := Clone(st); !same(got, st) {
			t.Errorf("Clone of sample %d is different", i)
		}
		if !same(st, before) {
			t.Errorf("Clone of sample %d changed its argument", i)
		}
	}
}

func TestCloneAllocates(t *testing.T) {
	for _, spare := range []int{0, 1, 10} {
		for _, text := range []string{"010 011 101", "1 - 0", "- 1 -", "- - -", "- 01 11"} {
			st := roomy(parsed(text), spare)
			checkSeparate(t, st, "Clone", func() api.State { return Clone(st) })
		}
	}
}

func TestCloneOfSharedImages(t *testing.T) {
	l := bits("0110")
	got := Clone(api.State{Q: l, M: l[:2], E: l[1:]})
	if !same(got, parsed("0110 01 110")) {
		t.Errorf("Clone of pieces of one slice = %v", got)
	}
	got.Q[1] = false
	got.M[0] = true
	if !slices.Equal(got.E, bits("110")) || !slices.Equal(l, bits("0110")) {
		t.Error("the images of the clone share memory")
	}
}

func TestFormat(t *testing.T) {
	for _, text := range []string{
		"- - -", "0 - -", "- 0 -", "- - 0", "1 - 0", "- 1 1",
		"0 0 0", "1 0 0", "0 1 0", "0 0 1",
		"00 000 0", "00 010 0", "01 000 0", "101 01 0011", "1111 - 00000",
	} {
		st := parsed(text)
		before := twin(st)
		if got := Format(st); got != text {
			t.Errorf("Format = %q, want %q", got, text)
		}
		if !same(st, before) {
			t.Errorf("Format of %s changed its argument", text)
		}
	}
	if got := Format(api.State{Q: []bool{}, M: bits("1")[:0], E: bits("10")[:1]}); got != "- - 1" {
		t.Errorf("Format = %q, want - - 1", got)
	}
}

func TestFormatOfNewAndWritten(t *testing.T) {
	st, _ := New(api.Size{I: 1, Q: 2, M: 3, E: 1})
	if got := Format(st); got != "00 000 0" {
		t.Errorf("Format of a new state = %q", got)
	}
	st, _ = Write(st, api.Addr{Space: api.Memory, N: 1}, true)
	if got := Format(st); got != "00 010 0" {
		t.Errorf("Format of a written state = %q", got)
	}
}

func TestFormatOfLongImages(t *testing.T) {
	q, m, e := strings.Repeat("01", 200), strings.Repeat("1", 257), strings.Repeat("0", api.MaxSlots+1)
	if got := Format(api.State{Q: bits(q), M: bits(m), E: bits(e)}); got != q+" "+m+" "+e {
		t.Errorf("Format of long images has %d bytes", len(got))
	}
}

// P3.4

// addresses returns the addresses of all bits of the outputs and the memory.
func addresses(st api.State) []api.Addr {
	var l []api.Addr
	for n := range st.Q {
		l = append(l, api.Addr{Space: api.Output, N: n})
	}
	for n := range st.M {
		l = append(l, api.Addr{Space: api.Memory, N: n})
	}
	return l
}

// checkWritten checks that got differs from st at most in the bit at a, which
// is v in got.
func checkWritten(t *testing.T, in []bool, st, got api.State, a api.Addr, v bool) {
	t.Helper()
	for _, b := range addresses(st) {
		want, _ := Read(in, st, b)
		if b == a {
			want = v
		}
		if bit, e := Read(in, got, b); bit != want || e != api.OK {
			t.Errorf("after a write of %v to %v, %v is %v, %v", v, a, b, bit, e)
		}
	}
	for n, want := range in {
		if bit, e := Read(in, got, api.Addr{Space: api.Input, N: n}); bit != want || e != api.OK {
			t.Errorf("after a write of %v to %v, input %d is %v, %v", v, a, n, bit, e)
		}
	}
	if !slices.Equal(got.E, st.E) {
		t.Errorf("after a write of %v to %v, the edge history is %v", v, a, got.E)
	}
}

func TestWriteAndRead(t *testing.T) {
	in := bits("0101")
	for _, st := range []api.State{
		parsed("00 000 0"), parsed("11 111 1"), parsed("0110 1001 0101"), parsed("- 01 1"), parsed("10 - -"),
		{Q: bits(strings.Repeat("01", 128)), M: bits(strings.Repeat("110", 86))[:256], E: bits("1")},
	} {
		for _, a := range addresses(st) {
			for _, v := range []bool{false, true} {
				got, e := Write(st, a, v)
				if e != api.OK {
					t.Errorf("Write of %v: %v", a, e)
					continue
				}
				checkWritten(t, in, st, got, a, v)
			}
		}
	}
}

// TestManyWrites writes a long series of bits and compares the state with a
// model after each of them.
func TestManyWrites(t *testing.T) {
	s := api.Size{I: 1, Q: 7, M: 11, E: 3}
	st, _ := New(s)
	all := addresses(st)
	model := map[api.Addr]bool{}
	for i := range 500 {
		a, v := all[i*5%len(all)], i*i%7 < 3
		next, e := Write(st, a, v)
		if e != api.OK || !Fits(s, next) {
			t.Fatalf("write %d: %v", i, e)
		}
		st, model[a] = next, v
		for _, b := range all {
			if bit, e := Read(nil, st, b); bit != model[b] || e != api.OK {
				t.Fatalf("after write %d, %v is %v, %v", i, b, bit, e)
			}
		}
	}
}
