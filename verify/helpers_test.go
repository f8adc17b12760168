package verify

import (
	"math"
	"slices"
	"strings"
	"testing"

	"busbar/api"
	"busbar/op"
)

// small are sizes that differ from each other.
var small = api.Size{I: 2, Q: 3, M: 4, E: 5}

// noIndices are ints that are no index of an instruction; some would be one if
// they lost their sign or their upper bits.
var noIndices = []int{
	-1, -2, -3, -64, -65535, 1 << 16, 1<<16 + 3, 1 << 31, 1 << 32, 1<<32 + 3, -1 << 31, -1 << 32, -1<<32 + 3,
	math.MinInt, math.MinInt + 1, math.MinInt + 3, math.MaxInt - 1, math.MaxInt,
}

// noOpcodes are ints that are no opcode; some would be one if they lost their
// upper bits.
var noOpcodes = []int{
	-1, -8, 17, 18, 255, 256, 256 + api.Push, 256 + api.Andp, 1<<16 + api.Orp, 1<<32 + api.Push, 1<<32 + api.Jmpc, 1<<32 + api.End,
	-1<<32 + api.Push, -1<<32 + api.Andp, math.MinInt, math.MinInt + api.Push, math.MinInt + api.End, math.MaxInt,
}

func input(n int) api.Addr  { return api.Addr{Space: api.Input, N: n} }
func output(n int) api.Addr { return api.Addr{Space: api.Output, N: n} }
func memory(n int) api.Addr { return api.Addr{Space: api.Memory, N: n} }
func jump(n int) api.Ins    { return api.Ins{Op: api.Jmpc, N: n} }

// assembled returns the instructions of a list such as "ld I0, end".
func assembled(list string) []api.Ins {
	if list == "" {
		return nil
	}
	var code []api.Ins
	for _, s := range strings.Split(list, ", ") {
		x, e := op.Parse(s)
		if e != api.OK {
			panic(s + " is no instruction")
		}
		code = append(code, x)
	}
	return code
}

// program returns the program of a list of instructions with the sizes small.
func program(list string) api.Program { return api.Program{Size: small, Code: assembled(list)} }

// many returns n instructions with an opcode.
func many(n, o int) []api.Ins { return slices.Repeat([]api.Ins{{Op: o}}, n) }

// joined returns one list of several lists of instructions, in new memory.
func joined(lists ...[]api.Ins) []api.Ins { return slices.Concat(lists...) }

// replaced returns a copy of a list in which the instruction at an index is x.
func replaced(code []api.Ins, at int, x api.Ins) []api.Ins {
	code = slices.Clone(code)
	code[at] = x
	return code
}

// guard is a copy of a list of instructions behind which there is further
// memory, so that it shows whether a call changes any of it.
type guard struct{ before, all []api.Ins }

func guarded(code []api.Ins) guard {
	all := joined(code, assembled("jmpc 1, push, andp, end"))
	return guard{slices.Clone(all), all}
}

// code returns the guarded instructions.
func (g guard) code() []api.Ins { return g.all[:len(g.all)-4] }

func (g guard) mustBeUnchanged(t testing.TB) {
	t.Helper()
	if !slices.Equal(g.all, g.before) {
		t.Fatal("the instructions that were handed in are changed")
	}
}

// excerpt returns the first instructions of a list, for messages.
func excerpt(code []api.Ins) []api.Ins { return code[:min(len(code), 12)] }

// verdict is what Check returns.
type verdict struct {
	depth, at int
	e         api.Errno
}

// mustCheck checks the results of Check and Valid, again and again.
func mustCheck(t testing.TB, p api.Program, want verdict) {
	t.Helper()
	g := guarded(p.Code)
	given := api.Program{Size: p.Size, Code: g.code()}
	for range 2 {
		depth, at, e := Check(given)
		if got := (verdict{depth, at, e}); got != want {
			t.Fatalf("Check of %v and %d instructions %v = %v, want %v", p.Size, len(p.Code), excerpt(p.Code), got, want)
		}
		if ok := Valid(given); ok != (want.e == api.OK) {
			t.Fatalf("Valid of %v and %d instructions %v = %v", p.Size, len(p.Code), excerpt(p.Code), ok)
		}
	}
	g.mustBeUnchanged(t)
}

// mustPass checks that a program is valid and has the given greatest depth.
func mustPass(t testing.TB, p api.Program, depth int) {
	t.Helper()
	mustCheck(t, p, verdict{depth, len(p.Code), api.OK})
}

// mustFail checks that a program is refused.
func mustFail(t testing.TB, p api.Program, at int, e api.Errno) {
	t.Helper()
	mustCheck(t, p, verdict{0, at, e})
}

// numbers returns a source of numbers that are always the same and look
// random: the source returns one from 0 to n-1.
func numbers(seed uint64) func(n int) int {
	return func(n int) int {
		seed = seed*6364136223846793005 + 1442695040888963407
		return int(seed >> 33 % uint64(n))
	}
}
