package bytecode

import (
	"math"
	"slices"
	"strconv"
	"strings"
	"testing"

	"busbar/api"
	"busbar/op"
	"busbar/verify"
)

var (
	// small are sizes that differ from each other.
	small = api.Size{I: 2, Q: 3, M: 4, E: 5}
	// full are the greatest sizes.
	full = api.Size{I: 256, Q: 256, M: 256, E: 16384}
)

// outside are ints that are less or greater than everything that an encoding
// can hold; some would be inside if they lost their sign or their upper bits.
var outside = []int{
	-1, -2, -255, -256, -65535, -65536, 1 << 16, 1<<16 + 1, 1 << 31, 1 << 32, 1<<32 + 1, -1 << 31, -1 << 32, -1<<32 + 1,
	math.MinInt, math.MinInt + 1, math.MaxInt - 1, math.MaxInt,
}

func input(n int) api.Addr  { return api.Addr{Space: api.Input, N: n} }
func output(n int) api.Addr { return api.Addr{Space: api.Output, N: n} }
func memory(n int) api.Addr { return api.Addr{Space: api.Memory, N: n} }

// assembled returns the instructions of a list such as "ld I0, end".
func assembled(list string) []api.Ins {
	if list == "" {
		return nil
	}
	var code []api.Ins
	for _, s := range strings.Split(list, ", ") {
		x, e := op.Parse(s)
		if e != api.OK {
			panic(s + " is no instruction")
		}
		code = append(code, x)
	}
	return code
}

// program returns the program of a list of instructions with the sizes small.
func program(list string) api.Program { return api.Program{Size: small, Code: assembled(list)} }

// many returns n equal instructions.
func many(n int, x api.Ins) []api.Ins { return slices.Repeat([]api.Ins{x}, n) }

// joined returns one list of several lists, in new memory.
func joined[E any](lists ...[]E) []E { return slices.Concat(lists...) }

// replaced returns a copy of a list in which the element at an index is x.
func replaced[E any](l []E, at int, x E) []E {
	l = slices.Clone(l)
	l[at] = x
	return l
}

// listed returns the bytes of a list such as "66 66 49".
func listed(list string) []byte {
	var b []byte
	for _, s := range strings.Fields(list) {
		n, err := strconv.ParseUint(s, 10, 8)
		if err != nil {
			panic(list + " is no list of bytes")
		}
		b = append(b, byte(n))
	}
	return b
}

// header returns the bytes that precede the instructions.
func header(s api.Size, many int) []byte {
	b := []byte{66, 66, 49}
	for _, n := range []int{s.I, s.Q, s.M, s.E, many} {
		b = append(b, byte(n%256), byte(n/256))
	}
	return b
}

// smallBytes returns the header of n instructions with the sizes small and the
// bytes of a list behind it.
func smallBytes(n int, list string) []byte { return joined(header(small, n), listed(list)) }

// guard is a copy of a list behind which there is further memory, so that it
// shows whether a call changes any of it.
type guard[E comparable] struct{ list, all, before []E }

func guarded[E comparable](list, behind []E) guard[E] {
	all := slices.Concat(list, behind)
	return guard[E]{all[:len(list)], all, slices.Clone(all)}
}

func (g guard[E]) mustBeUnchanged(t testing.TB) {
	t.Helper()
	if !slices.Equal(g.all, g.before) {
		t.Fatal("the memory that was handed in is changed")
	}
}

// behind are what can lie behind the end of the bytes that are decoded.
var behind = [][]byte{nil, []byte("\x10\x10\x10\x10\x10\x10"), []byte("\x00\x00\x00\x00\x00\x00"), []byte("\xff\xff\xff")}

// excerpt returns the first elements of a list, for messages.
func excerpt[E any](l []E) []E { return l[:min(len(l), 40)] }

// same reports whether two programs have the same sizes and instructions.
func same(a, b api.Program) bool { return a.Size == b.Size && slices.Equal(a.Code, b.Code) }

// mustBe checks that bytes are the encoding of a program, in each way in which
// that shows.
func mustBe(t testing.TB, p api.Program, b []byte) {
	t.Helper()
	mustEncode(t, p, b)
	mustDecode(t, b, p)
}

// mustEncode checks the results of Encode and Size on a valid program, and that
// the bytes share no memory with the program.
func mustEncode(t testing.TB, p api.Program, want []byte) {
	t.Helper()
	g := guarded(p.Code, assembled("push, jmpc 1, end"))
	given := api.Program{Size: p.Size, Code: g.list}
	for range 2 {
		b, e := Encode(given)
		if e != api.OK || !slices.Equal(b, want) {
			t.Fatalf("Encode of %v and %d instructions %v = %v, %v, want %v", p.Size, len(p.Code), excerpt(p.Code), excerpt(b), e, excerpt(want))
		}
		for i := range b {
			b[i] ^= 255
		}
		if n := Size(given); n != len(want) {
			t.Fatalf("Size of %v and %d instructions %v = %d, want %d", p.Size, len(p.Code), excerpt(p.Code), n, len(want))
		}
	}
	g.mustBeUnchanged(t)
}

// mustNotEncode checks the error of Encode, what is beside it, and Size.
func mustNotEncode(t testing.TB, p api.Program, want api.Errno) {
	t.Helper()
	g := guarded(p.Code, assembled("push, jmpc 1, end"))
	given := api.Program{Size: p.Size, Code: g.list}
	for range 2 {
		if b, e := Encode(given); e != want || len(b) != 0 {
			t.Fatalf("Encode of %v and %d instructions %v = %v, %v, want %v", p.Size, len(p.Code), excerpt(p.Code), excerpt(b), e, want)
		}
		if n := Size(given); n != 0 {
			t.Fatalf("Size of %v and %d instructions %v = %d", p.Size, len(p.Code), excerpt(p.Code), n)
		}
	}
	g.mustBeUnchanged(t)
}

// mustDecode checks the results of Decode on the encoding of a program, whatever
// lies behind it, and that the program shares no memory with it.
func mustDecode(t testing.TB, b []byte, want api.Program) {
	t.Helper()
	for _, l := range behind {
		g := guarded(b, l)
		p, at, e := Decode(g.list)
		g.mustBeUnchanged(t)
		if at != len(b) || e != api.OK || !same(p, want) {
			t.Fatalf("Decode of %d bytes %v = %v and %d instructions %v, %d, %v, want %v and %v", len(b), excerpt(b), p.Size, len(p.Code), excerpt(p.Code), at, e, want.Size, excerpt(want.Code))
		}
		for i := range g.all {
			g.all[i] ^= 255
		}
		if !same(p, want) {
			t.Fatalf("the program decoded from %v changes with the bytes", excerpt(b))
		}
	}
}

// mustNotDecode checks the error of Decode and what is beside it, whatever lies
// behind the bytes.
func mustNotDecode(t testing.TB, b []byte, wantAt int, want api.Errno) {
	t.Helper()
	for _, l := range behind {
		g := guarded(b, l)
		p, at, e := Decode(g.list)
		g.mustBeUnchanged(t)
		if at != wantAt || e != want {
			t.Fatalf("Decode of %d bytes %v = %d, %v, want %d, %v", len(b), excerpt(b), at, e, wantAt, want)
		}
		if p.Size != (api.Size{}) || len(p.Code) != 0 {
			t.Fatalf("Decode of %d bytes %v returns %v and %d instructions %v beside an error", len(b), excerpt(b), p.Size, len(p.Code), excerpt(p.Code))
		}
	}
}

// mustInvert checks on a valid program that Decode inverts Encode, and returns
// its encoding.
func mustInvert(t testing.TB, p api.Program) []byte {
	t.Helper()
	b, e := Encode(p)
	if e != api.OK || len(b) != Size(p) {
		t.Fatalf("Encode of %v and %d instructions %v returns %d bytes and %v, but Size %d", p.Size, len(p.Code), excerpt(p.Code), len(b), e, Size(p))
	}
	q, at, e := Decode(b)
	if e != api.OK || at != len(b) || !same(p, q) || !Equal(p, q) {
		t.Fatalf("%v and %d instructions %v become %v and %d instructions %v, %d, %v", p.Size, len(p.Code), excerpt(p.Code), q.Size, len(q.Code), excerpt(q.Code), at, e)
	}
	return b
}

// mustBeExact checks that a decoded program is valid and has exactly the decoded
// bytes as its encoding.
func mustBeExact(t testing.TB, p api.Program, b []byte) {
	t.Helper()
	if !verify.Valid(p) {
		t.Fatalf("%v decodes to the invalid program %v", excerpt(b), p)
	}
	if again, e := Encode(p); e != api.OK || !slices.Equal(again, b) || Size(p) != len(b) {
		t.Fatalf("%v decodes to a program that is encoded as %v, %v, of size %d", excerpt(b), excerpt(again), e, Size(p))
	}
}

// numbersOf returns a source of numbers that are always the same and look
// random: the source returns one from 0 to n-1.
func numbersOf(seed uint64) func(n int) int {
	return func(n int) int {
		seed = seed*6364136223846793005 + 1442695040888963407
		return int(seed >> 33 % uint64(n))
	}
}
