package bytecode

import (
	"math"
	"slices"
	"strings"
	"testing"

	"busbar/api"
	"busbar/op"
	"busbar/verify"
)

// P8.1

func TestExample(t *testing.T) {
	p := api.Program{Size: api.Size{I: 1}, Code: assembled("ld I0, end")}
	mustBe(t, p, listed("66 66 49 1 0 0 0 0 0 0 0 2 0 0 0 0 16"))
}

// TestEachOpcode has each opcode with operands that differ from each other.
func TestEachOpcode(t *testing.T) {
	for _, c := range []struct{ list, bytes string }{
		{"end", "16"},
		{"ld I1, end", "0 0 1 16"},
		{"ldn Q2, end", "1 1 2 16"},
		{"and M3, end", "2 2 3 16"},
		{"andn I1, end", "3 0 1 16"},
		{"or Q2, end", "4 1 2 16"},
		{"orn M3, end", "5 2 3 16"},
		{"rise Q2 4, end", "6 1 2 4 0 16"},
		{"fall M3 1, end", "7 2 3 1 0 16"},
		{"push, end", "8 16"},
		{"push, andp, end", "8 9 16"},
		{"push, orp, end", "8 10 16"},
		{"st Q2, end", "11 1 2 16"},
		{"stn M3, end", "12 2 3 16"},
		{"set Q1, end", "13 1 1 16"},
		{"rst M2, end", "14 2 2 16"},
		{"jmpc 1, end", "15 1 0 16"},
		{"end, end, end", "16 16 16"},
		{"ld I0, jmpc 4, push, andp, rise I1 3, st M0, end", "0 0 0 15 4 0 8 9 6 0 1 3 0 11 2 0 16"},
	} {
		p := program(c.list)
		mustBe(t, p, smallBytes(len(p.Code), c.bytes))
	}
}

// TestEachSize has every size of every image.
func TestEachSize(t *testing.T) {
	end := assembled("end")
	size := func(s api.Size, list string) {
		mustBe(t, api.Program{Size: s, Code: end}, listed("66 66 49 "+list+" 1 0 16"))
	}
	size(api.Size{}, "0 0 0 0 0 0 0 0")
	size(api.Size{I: 1, Q: 2, M: 3, E: 4}, "1 0 2 0 3 0 4 0")
	size(api.Size{I: 256, Q: 255, M: 254, E: 258}, "0 1 255 0 254 0 2 1")
	size(full, "0 1 0 1 0 1 0 64")
	size(api.Size{E: 16383}, "0 0 0 0 0 0 255 63")
	size(api.Size{E: 513}, "0 0 0 0 0 0 1 2")
	for n := range api.MaxBits + 1 {
		for _, s := range []api.Size{{I: n}, {Q: n}, {M: n}, {I: n, Q: 256 - n, M: n, E: 16384 - n}} {
			mustBe(t, api.Program{Size: s, Code: end}, joined(header(s, 1), []byte{16}))
		}
	}
	for n := range api.MaxSlots + 1 {
		s := api.Size{E: n}
		mustBe(t, api.Program{Size: s, Code: end}, joined(header(s, 1), []byte{16}))
	}
}

// TestEachAddress has every address that an opcode can have.
func TestEachAddress(t *testing.T) {
	for o := range api.Ops {
		form, _ := op.Form(o)
		if form == op.NoOperand || form == op.JumpTarget {
			continue
		}
		for space := range 3 {
			if form == op.WriteAddr && space == api.Input {
				continue
			}
			for n := range api.MaxBits {
				x := api.Ins{Op: o, A: api.Addr{Space: space, N: n}}
				b := []byte{byte(o), byte(space), byte(n)}
				if form == op.ReadEdge {
					x.N = 258
					b = append(b, 2, 1)
				}
				p := api.Program{Size: full, Code: []api.Ins{x, {Op: api.End}}}
				mustBe(t, p, joined(header(full, 2), b, []byte{16}))
			}
		}
	}
}

func TestEachSlot(t *testing.T) {
	for n := range api.MaxSlots {
		low, high := byte(n%256), byte(n/256)
		p := api.Program{Size: full, Code: []api.Ins{{Op: api.Rise, A: input(255), N: n}, {Op: api.Fall, A: memory(1), N: n}, {Op: api.End}}}
		mustBe(t, p, joined(header(full, 3), []byte{6, 0, 255, low, high, 7, 2, 1, low, high, 16}))
	}
}

// TestEachTarget has every target that a jmpc can have, each once.
func TestEachTarget(t *testing.T) {
	p := api.Program{Size: small}
	b := header(small, 65535)
	for n := 1; n < 65535; n++ {
		p.Code = append(p.Code, api.Ins{Op: api.Jmpc, N: n})
		b = append(b, 15, byte(n%256), byte(n/256))
	}
	p.Code = append(p.Code, api.Ins{Op: api.End})
	mustBe(t, p, append(b, 16))
	for _, n := range []int{1, 2, 255, 256, 257, 258, 513, 4660, 65280, 65533, 65534} {
		p := api.Program{Size: small, Code: joined(many(65534, api.Ins{}), assembled("end"))}
		p.Code[0] = api.Ins{Op: api.Jmpc, N: n}
		b := joined(header(small, 65535), []byte{15, byte(n % 256), byte(n / 256)}, make([]byte, 65533*3), []byte{16})
		mustBe(t, p, b)
	}
}

// TestManyInstructions has programs of one to the greatest number of
// instructions.
func TestManyInstructions(t *testing.T) {
	for _, n := range []int{1, 2, 3, 127, 128, 255, 256, 257, 258, 513, 4660, 32767, 32768, 65280, 65534, 65535} {
		p := api.Program{Size: small, Code: joined(many(n-1, api.Ins{Op: api.Or, A: memory(3)}), assembled("end"))}
		mustBe(t, p, joined(header(small, n), slices.Repeat([]byte{4, 2, 3}, n-1), []byte{16}))
		p = api.Program{Code: many(n, api.Ins{Op: api.End})}
		mustBe(t, p, joined(header(api.Size{}, n), slices.Repeat([]byte{16}, n)))
	}
}

// TestLongest has the program with the longest encoding of all.
func TestLongest(t *testing.T) {
	x := api.Ins{Op: api.Fall, A: memory(255), N: 16383}
	p := api.Program{Size: full, Code: joined(many(65534, x), assembled("end"))}
	b := joined(header(full, 65535), slices.Repeat([]byte{7, 2, 255, 255, 63}, 65534), []byte{16})
	if len(b) != 327684 {
		t.Fatalf("the longest encoding has %d bytes", len(b))
	}
	mustBe(t, p, b)
}

// TestFlawedPrograms has programs that fail each of the checks of layer 7, and
// the error of the first where several fail.
func TestFlawedPrograms(t *testing.T) {
	for _, c := range []struct {
		p api.Program
		e api.Errno
	}{
		{api.Program{Size: api.Size{M: 257}, Code: assembled("end")}, api.ErrRange},
		{api.Program{Size: api.Size{E: 16385}, Code: assembled("end")}, api.ErrRange},
		{api.Program{Size: api.Size{I: -1}, Code: assembled("end")}, api.ErrRange},
		{api.Program{}, api.ErrNone},
		{api.Program{Size: small, Code: []api.Ins{}}, api.ErrNone},
		{api.Program{Size: small, Code: many(65536, api.Ins{Op: api.End})}, api.ErrLong},
		{api.Program{Size: small, Code: []api.Ins{{Op: 17}, {Op: api.End}}}, api.ErrKind},
		{api.Program{Size: small, Code: []api.Ins{{Op: api.Push, N: 1}, {Op: api.End}}}, api.ErrArg},
		{api.Program{Size: small, Code: []api.Ins{{Op: api.Ld, A: api.Addr{Space: 3}}, {Op: api.End}}}, api.ErrKind},
		{program("ld I2, end"), api.ErrRange},
		{program("st I0, end"), api.ErrKind},
		{program("rise I0 5, end"), api.ErrRange},
		{program("jmpc 2, end"), api.ErrRange},
		{program("ld I0, jmpc 1, end"), api.ErrOrder},
		{program("andp, end"), api.ErrStack},
		{program("push, orp, orp, end"), api.ErrStack},
		{program(strings.Repeat("push, ", 65) + "end"), api.ErrDeep},
		{program("push, jmpc 3, andp, end"), api.ErrState},
		{program("jmpc 2, push, end"), api.ErrState},
		{program("ld I0"), api.ErrShort},
		{program("end, push"), api.ErrShort},
		// Of two errors, that of the earlier check.
		{api.Program{Size: api.Size{Q: 257}}, api.ErrRange},
		{api.Program{Size: small, Code: many(65536, api.Ins{Op: 17})}, api.ErrLong},
		{program("orp, jmpc 1, end"), api.ErrOrder},
		{program("push, jmpc 3, orp, orp, end"), api.ErrStack},
		{program("push, jmpc 2, ld I0"), api.ErrState},
	} {
		mustNotEncode(t, c.p, c.e)
	}
	mustNotEncode(t, api.Program{Size: full, Code: many(70000, api.Ins{Op: api.Push})}, api.ErrLong)
}

// TestNumbersOutside has sizes, opcodes, addresses, slots and targets that an
// encoding cannot hold.
func TestNumbersOutside(t *testing.T) {
	refused := func(x api.Ins, e api.Errno) {
		mustNotEncode(t, api.Program{Size: full, Code: []api.Ins{x, {Op: api.End}}}, e)
		mustNotEncode(t, api.Program{Size: full, Code: []api.Ins{{}, x, {Op: api.End}}}, e)
	}
	for _, n := range append([]int{16385, 32768, 65535}, outside...) {
		for _, s := range []api.Size{{I: n}, {Q: n}, {M: n}, {E: n}, {I: n, Q: n, M: n, E: n}} {
			mustNotEncode(t, api.Program{Size: s, Code: assembled("end")}, api.ErrRange)
		}
		for _, o := range []int{api.Ld, api.Orn, api.Rise, api.Fall, api.St, api.Rst} {
			refused(api.Ins{Op: o, A: output(n)}, api.ErrRange)
			refused(api.Ins{Op: o, A: api.Addr{Space: n}}, api.ErrKind)
		}
		refused(api.Ins{Op: n}, api.ErrKind)
		refused(api.Ins{Op: api.Rise, N: n}, api.ErrRange)
		refused(api.Ins{Op: api.Fall, A: memory(255), N: n}, api.ErrRange)
		refused(api.Ins{Op: api.Jmpc, N: n}, api.ErrRange)
		for _, o := range []int{api.Ld, api.Push, api.Andp, api.Set, api.End} {
			refused(api.Ins{Op: o, A: output(0), N: n}, api.ErrArg)
		}
		for _, o := range []int{api.Push, api.Orp, api.Jmpc, api.End} {
			refused(api.Ins{Op: o, A: api.Addr{Space: n, N: n}, N: 2}, api.ErrArg)
		}
	}
}

// TestNumbersAtTheBounds has the first numbers that are refused.
func TestNumbersAtTheBounds(t *testing.T) {
	for _, s := range []api.Size{{I: 257}, {Q: 257}, {M: 257}, {E: 16385}} {
		mustNotEncode(t, api.Program{Size: s, Code: assembled("end")}, api.ErrRange)
	}
	for _, c := range []struct {
		x api.Ins
		e api.Errno
	}{
		{api.Ins{Op: api.Ops}, api.ErrKind},
		{api.Ins{Op: 255}, api.ErrKind},
		{api.Ins{Op: 256 + api.End}, api.ErrKind},
		{api.Ins{Op: api.Ld, A: input(256)}, api.ErrRange},
		{api.Ins{Op: api.And, A: memory(511)}, api.ErrRange},
		{api.Ins{Op: api.St, A: output(256)}, api.ErrRange},
		{api.Ins{Op: api.Ld, A: api.Addr{Space: 3}}, api.ErrKind},
		{api.Ins{Op: api.Ld, A: api.Addr{Space: 256}}, api.ErrKind},
		{api.Ins{Op: api.Rise, N: 16384}, api.ErrRange},
		{api.Ins{Op: api.Fall, N: 65535}, api.ErrRange},
		{api.Ins{Op: api.Jmpc, N: 0}, api.ErrOrder},
		{api.Ins{Op: api.Jmpc, N: 2}, api.ErrRange},
		{api.Ins{Op: api.Jmpc, N: 65537}, api.ErrRange},
	} {
		mustNotEncode(t, api.Program{Size: full, Code: []api.Ins{c.x, {Op: api.End}}}, c.e)
	}
	code := joined(many(65534, api.Ins{}), assembled("end"))
	for n, e := range map[int]api.Errno{65533: api.ErrOrder, 65535: api.ErrRange, 65536: api.ErrRange, math.MinInt: api.ErrRange} {
		mustNotEncode(t, api.Program{Size: full, Code: replaced(code, 65533, api.Ins{Op: api.Jmpc, N: n})}, e)
	}
	mustInvert(t, api.Program{Size: full, Code: replaced(code, 65533, api.Ins{Op: api.Jmpc, N: 65534})})
}

// TestEncodeAgreesWithCheck has many programs, of which about half are valid.
func TestEncodeAgreesWithCheck(t *testing.T) {
	pick := numbersOf(1)
	verdicts := map[api.Errno]int{}
	for i := range 20000 {
		p := anyProgram(pick, small, 2+i%40)
		_, _, e := verify.Check(p)
		verdicts[e]++
		if e == api.OK {
			mustEncode(t, p, referenceBytes(p))
		} else {
			mustNotEncode(t, p, e)
		}
	}
	for _, e := range []api.Errno{api.OK, api.ErrArg, api.ErrRange, api.ErrShort, api.ErrKind, api.ErrState, api.ErrOrder, api.ErrStack} {
		if verdicts[e] < 30 {
			t.Errorf("only %d programs with %v were tried", verdicts[e], e)
		}
	}
}

func TestEncodeSharesNothing(t *testing.T) {
	p := program("ld I1, rise M2 3, end")
	want := smallBytes(3, "0 0 1 6 2 2 3 0 16")
	one, _ := Encode(p)
	two, _ := Encode(p)
	clear(p.Code)
	clear(one[:cap(one)])
	if !slices.Equal(two, want) {
		t.Errorf("a result of Encode became %v", two)
	}
}
