package bytecode

import (
	"slices"
	"strings"
	"sync"
	"testing"

	"busbar/api"
	"busbar/state"
	"busbar/verify"
	"busbar/vm"
)

// P8.3

func TestDecodeInvertsEncode(t *testing.T) {
	for _, list := range []string{
		"end",
		"ld I0, st Q0, end",
		"ld I0, end, push, push, end",
		"ld I0, jmpc 5, push, ld I1, orp, jmpc 7, st Q0, end",
		"rise I0 0, push, fall Q1 4, push, ldn M0, orp, andp, stn Q1, set M1, rst Q0, end",
		strings.Repeat("push, ", 64) + strings.Repeat("orp, ", 64) + "end",
	} {
		b := mustInvert(t, program(list))
		p, _, _ := Decode(b)
		mustBeExact(t, p, b)
	}
}

func TestDecodeInvertsEncodeOnAnyPrograms(t *testing.T) {
	pick := numbersOf(2)
	tried := 0
	for i := range 20000 {
		p := anyProgram(pick, api.Size{I: 1 + pick(256), Q: 1 + pick(256), M: 1 + pick(256), E: 1 + pick(16384)}, 2+i%60)
		if !verify.Valid(p) {
			continue
		}
		mustBe(t, p, mustInvert(t, p))
		tried++
	}
	if tried < 5000 {
		t.Errorf("only %d programs were valid", tried)
	}
}

// TestDecodeShortLists decodes every list of up to five bytes of an alphabet as
// the instructions of a program.
func TestDecodeShortLists(t *testing.T) {
	alphabet := listed("0 1 2 6 8 9 11 15 16 17 255")
	verdicts := map[api.Errno]int{}
	for n := range 4 {
		b := header(api.Size{I: 2, Q: 2, E: 2}, n)
		var extend func(more int)
		extend = func(more int) {
			verdicts[mustAgree(t, b)]++
			if more == 0 {
				return
			}
			for _, v := range alphabet {
				b = append(b, v)
				extend(more - 1)
				b = b[:len(b)-1]
			}
		}
		extend(5)
	}
	for _, e := range []api.Errno{api.OK, api.ErrRange, api.ErrNone, api.ErrShort, api.ErrLong, api.ErrKind, api.ErrOrder, api.ErrStack} {
		if verdicts[e] == 0 {
			t.Errorf("no bytes with %v were tried", e)
		}
	}
}

// TestDecodeEachByte sets each byte of an encoding to each value.
func TestDecodeEachByte(t *testing.T) {
	b := listed(formsList)
	for at := range b {
		for v := range 256 {
			mustAgree(t, replaced(b, at, byte(v)))
		}
	}
}

// TestDecodeSpoiled cuts, extends and changes encodings at random.
func TestDecodeSpoiled(t *testing.T) {
	pick := numbersOf(3)
	verdicts := map[api.Errno]int{}
	for i := range 20000 {
		p := anyProgram(pick, small, 2+i%30)
		if !verify.Valid(p) {
			continue
		}
		b, _ := Encode(p)
		for range 5 {
			c := slices.Clone(b)
			for range 1 + pick(3) {
				c = spoiledBytes(pick, c)
			}
			verdicts[mustAgree(t, c)]++
		}
	}
	for _, e := range []api.Errno{api.OK, api.ErrRange, api.ErrShort, api.ErrForm, api.ErrLong, api.ErrKind, api.ErrState, api.ErrOrder, api.ErrStack} {
		if verdicts[e] == 0 {
			t.Errorf("no bytes with %v were tried", e)
		}
	}
}

// TestDecodedProgramsRun runs decoded programs, of which some are decoded from
// changed bytes, on inputs and states that are all false or all true.
func TestDecodedProgramsRun(t *testing.T) {
	pick := numbersOf(4)
	runs := 0
	for i := range 5000 {
		p := anyProgram(pick, small, 2+i%30)
		if !verify.Valid(p) {
			continue
		}
		b, _ := Encode(p)
		for range 3 {
			if q, _, e := Decode(b); e == api.OK {
				mustRun(t, q, false)
				mustRun(t, q, true)
				runs++
			}
			b = spoiledBytes(pick, b)
		}
	}
	if runs < 3000 {
		t.Errorf("only %d programs were run", runs)
	}
}

// mustRun runs a program on an input image and a state of one value, and checks
// that it does not fault.
func mustRun(t *testing.T, p api.Program, v bool) {
	t.Helper()
	fill := func(n int) []bool { return slices.Repeat([]bool{v}, n) }
	st := api.State{Q: fill(p.Size.Q), M: fill(p.Size.M), E: fill(p.Size.E)}
	r := vm.Run(p.Code, fill(p.Size.I), st)
	if r.Fault != api.OK || p.Code[r.At].Op != api.End || !state.Fits(p.Size, r.State) {
		t.Fatalf("the decoded program %v ends with %v", p, r)
	}
}

// spoiledBytes returns bytes with a random change, in the memory of b.
func spoiledBytes(pick func(int) int, b []byte) []byte {
	at := pick(len(b) + 1)
	switch {
	case at == len(b):
		return append(b, byte(pick(20)))
	case at < 3 && pick(8) > 0:
		return b // A wrong magic number hides all else.
	}
	switch pick(6) {
	case 0:
		return b[:at]
	case 1:
		return slices.Delete(b, at, at+1)
	case 2:
		return slices.Insert(b, at, byte(pick(20)))
	case 3:
		b[at] = byte(pick(256))
	default:
		b[at] = byte(pick(18))
	}
	return b
}

// TestConcurrentCalls calls every function on one program in several
// goroutines.
func TestConcurrentCalls(t *testing.T) {
	p, b := forms(), listed(formsList)
	var all sync.WaitGroup
	for range 8 {
		all.Go(func() {
			for range 100 {
				c, e := Encode(p)
				q, at, f := Decode(b)
				if e != api.OK || f != api.OK || at != len(b) || !slices.Equal(b, c) || !same(p, q) || Size(p) != len(b) || !Equal(p, q) {
					t.Error(c, e, q, at, f)
				}
			}
		})
	}
	all.Wait()
}
