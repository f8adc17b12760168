package vm

import (
	"math"
	"slices"
	"strings"
	"testing"

	"busbar/api"
	"busbar/image"
	"busbar/op"
	"busbar/state"
)

// bits returns the image of a textual form.
func bits(t string) []bool {
	l, e := image.Parse(t)
	if e != api.OK {
		panic(t + " is no image")
	}
	return l
}

// digit returns the textual form of one bit.
func digit(bit bool) string { return image.Format([]bool{bit}) }

// parsed returns the state of a textual form.
func parsed(t string) api.State {
	l := strings.Fields(t)
	return api.State{Q: bits(l[0]), M: bits(l[1]), E: bits(l[2])}
}

// spoil inverts all the memory of an image, also beyond its length.
func spoil(l []bool) {
	l = l[:cap(l)]
	for i := range l {
		l[i] = !l[i]
	}
}

// spoilState inverts all the memory of a state.
func spoilState(st api.State) {
	spoil(st.Q)
	spoil(st.M)
	spoil(st.E)
}

// assembled returns the program with the given assembly texts.
func assembled(t testing.TB, texts ...string) []api.Ins {
	t.Helper()
	var code []api.Ins
	for _, s := range texts {
		x, e := op.Parse(s)
		if e != api.OK {
			t.Fatalf("%q is no instruction", s)
		}
		code = append(code, x)
	}
	return code
}

// look is all that can be seen of a machine, and the elements of its stack, one
// digit each.
type look struct {
	acc   bool
	depth int
	stack string
	at    int
	state string
}

func lookAt(m *Machine) look {
	elements := ""
	for _, v := range m.branches.All() {
		elements += digit(v)
	}
	return look{m.Acc(), m.Depth(), elements, m.At(), state.Format(m.State())}
}

// mustStep executes n instructions, behind each of which the machine continues.
func mustStep(t testing.TB, m *Machine, n int) {
	t.Helper()
	for i := range n {
		if ok, e := m.Step(); !ok || e != api.OK {
			t.Fatalf("step %d at %d: Step() = %v, %v", i, m.At(), ok, e)
		}
	}
}

// mustStayHalted checks that Step returns the fault again and again, and that
// the machine stays as it is.
func mustStayHalted(t testing.TB, m *Machine, fault api.Errno) {
	t.Helper()
	before := lookAt(m)
	for range 3 {
		if ok, e := m.Step(); ok || e != fault {
			t.Fatalf("Step() of a halted machine = %v, %v, want %v", ok, e, fault)
		}
		if after := lookAt(m); after != before {
			t.Fatalf("Step() of a halted machine made %v of %v", after, before)
		}
	}
}

// mustFault checks that a machine executes the instructions before index at
// in their order, and that the one at that index faults without an effect.
func mustFault(t testing.TB, code []api.Ins, in []bool, st api.State, at int, fault api.Errno) {
	t.Helper()
	m := New(code, in, st)
	mustStep(t, m, at)
	before := lookAt(m)
	if before.at != at {
		t.Fatalf("%v: %d steps lead to %d", code, at, before.at)
	}
	if ok, e := m.Step(); ok || e != fault {
		t.Fatalf("%v at %d: Step() = %v, %v, want %v", code, at, ok, e, fault)
	}
	if after := lookAt(m); after != before {
		t.Fatalf("%v at %d: the fault made %v of %v", code, at, after, before)
	}
	mustStayHalted(t, m, fault)
	mustRun(t, code, in, st, outcome{before.state, at, at, fault})
}

// outcome is a Result with the textual form of its state.
type outcome struct {
	state string
	steps int
	at    int
	fault api.Errno
}

func outcomeOf(r Result) outcome { return outcome{state.Format(r.State), r.Steps, r.At, r.Fault} }

// mustRun checks the result of Run, and that it changes no argument.
func mustRun(t testing.TB, code []api.Ins, in []bool, st api.State, want outcome) {
	t.Helper()
	codeBefore, inBefore, stBefore := slices.Clone(code), slices.Clone(in), state.Clone(st)
	if got := outcomeOf(Run(code, in, st)); got != want {
		t.Fatalf("Run(%v, %v, %s) = %v, want %v", code, in, state.Format(st), got, want)
	}
	if !slices.Equal(code, codeBefore) || !slices.Equal(in, inBefore) || state.Format(st) != state.Format(stBefore) {
		t.Fatalf("Run(%v, %v, %s) changed an argument", codeBefore, inBefore, state.Format(stBefore))
	}
}

// extremes are ints that are neither an opcode, an address space, a bit
// number, a slot nor a jump target; some would be one if they lost their upper
// or lower bits.
var extremes = []int{
	-1, -2, -17, -256, 1 << 16, 1 << 31, 1 << 32, 1<<32 + 1, 1<<32 + 2, -1 << 31, -1 << 32, -1<<32 + 1,
	math.MinInt, math.MinInt + 1, math.MinInt + 2, math.MaxInt - 1, math.MaxInt,
}

var both = []bool{false, true}

// accTo returns the instructions that set the accumulator to v on an input
// image of which bit 0 is true.
func accTo(v bool) []api.Ins {
	if v {
		return []api.Ins{{Op: api.Ld}}
	}
	return []api.Ins{{Op: api.Ldn}}
}

// with returns a program of instructions and further ones, in new memory.
func with(code []api.Ins, more ...api.Ins) []api.Ins {
	return append(slices.Clone(code), more...)
}

// setBit returns a copy of an image with bit n set to v.
func setBit(l []bool, n int, v bool) []bool {
	c := slices.Clone(l)
	c[n] = v
	return c
}

// numbers returns a source of numbers that are always the same and look
// random: the source returns one from 0 to n-1.
func numbers(seed uint64) func(n int) int {
	return func(n int) int {
		seed = seed*6364136223846793005 + 1442695040888963407
		return int(seed >> 33 % uint64(n))
	}
}
