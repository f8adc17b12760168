package vm

import (
	"math"
	"slices"
	"testing"

	"busbar/api"
	"busbar/state"
)

// The opcodes that read a bit, that have a slot, that pop a value, and that
// write a bit.
var (
	readers = []int{api.Ld, api.Ldn, api.And, api.Andn, api.Or, api.Orn, api.Rise, api.Fall}
	edges   = []int{api.Rise, api.Fall}
	joins   = []int{api.Andp, api.Orp}
	stores  = []int{api.St, api.Stn, api.Set, api.Rst}
)

// usesAddress reports whether an opcode has an address, usesNumber whether it
// has a slot or a jump target.
func usesAddress(o int) bool { return slices.Contains(readers, o) || slices.Contains(stores, o) }
func usesNumber(o int) bool  { return slices.Contains(edges, o) || o == api.Jmpc }

// mustReach checks what is seen of a machine that has executed a program up to
// its end, which must be an end instruction.
func mustReach(t *testing.T, code []api.Ins, in []bool, st api.State, want look) {
	t.Helper()
	m := New(code, in, st)
	for {
		ok, e := m.Step()
		if e != api.OK {
			t.Fatalf("%v: Step() at %d: %v", code, m.At(), e)
		}
		if !ok {
			break
		}
	}
	want.at = len(code) - 1
	want.depth = len(want.stack)
	if got := lookAt(m); got != want {
		t.Errorf("%v on %v and %s leads to %v, want %v", code, in, state.Format(st), got, want)
	}
}

// bitAt returns an input image and a state in which the bit at an address with
// number 1 is v and all others are not v, but input 0 is true.
func bitAt(space int, v bool) ([]bool, api.State) {
	in, st := []bool{true, !v, !v}, api.State{Q: []bool{!v, !v, !v}, M: []bool{!v, !v, !v}, E: bits("0101")}
	[][]bool{in, st.Q, st.M}[space][1] = v
	return in, st
}

func TestLogic(t *testing.T) {
	for _, c := range []struct {
		op             int
		acc, bit, want bool
	}{
		{api.Ld, false, false, false}, {api.Ld, false, true, true}, {api.Ld, true, false, false}, {api.Ld, true, true, true},
		{api.Ldn, false, false, true}, {api.Ldn, false, true, false}, {api.Ldn, true, false, true}, {api.Ldn, true, true, false},
		{api.And, false, false, false}, {api.And, false, true, false}, {api.And, true, false, false}, {api.And, true, true, true},
		{api.Andn, false, false, false}, {api.Andn, false, true, false}, {api.Andn, true, false, true}, {api.Andn, true, true, false},
		{api.Or, false, false, false}, {api.Or, false, true, true}, {api.Or, true, false, true}, {api.Or, true, true, true},
		{api.Orn, false, false, true}, {api.Orn, false, true, false}, {api.Orn, true, false, true}, {api.Orn, true, true, true},
	} {
		for _, space := range []int{api.Input, api.Output, api.Memory} {
			in, st := bitAt(space, c.bit)
			x := api.Ins{Op: c.op, A: api.Addr{Space: space, N: 1}}
			mustReach(t, with(accTo(c.acc), x, api.Ins{Op: api.End}), in, st, look{acc: c.want, state: state.Format(st)})
		}
	}
}

func TestLogicReadsWhatWasWritten(t *testing.T) {
	code := assembled(t, "ldn I0", "st Q1", "ld I0", "ld Q1", "st M0", "stn Q1", "ldn I0", "and M0", "andn Q1", "end")
	mustReach(t, code, bits("0"), parsed("00 00 -"), look{acc: true, state: "00 10 -"})
}

func TestEdges(t *testing.T) {
	for _, c := range []struct {
		op              int
		bit, slot, want bool
	}{
		{api.Rise, false, false, false}, {api.Rise, false, true, false}, {api.Rise, true, false, true}, {api.Rise, true, true, false},
		{api.Fall, false, false, false}, {api.Fall, false, true, true}, {api.Fall, true, false, false}, {api.Fall, true, true, false},
	} {
		for _, acc := range both {
			for _, space := range []int{api.Input, api.Output, api.Memory} {
				for slot := range 4 {
					in, st := bitAt(space, c.bit)
					st.E = []bool{!c.slot, !c.slot, !c.slot, !c.slot}
					st.E[slot] = c.slot
					behind := api.State{Q: st.Q, M: st.M, E: setBit(st.E, slot, c.bit)}
					x := api.Ins{Op: c.op, A: api.Addr{Space: space, N: 1}, N: slot}
					mustReach(t, with(accTo(acc), x, api.Ins{Op: api.End}), in, st, look{acc: c.want, state: state.Format(behind)})
				}
			}
		}
	}
}

func TestEdgesThatShareASlot(t *testing.T) {
	for _, c := range []struct {
		texts []string
		want  look
	}{
		{[]string{"rise I0 0", "rise I0 0", "end"}, look{acc: false, state: "0 - 10"}},
		{[]string{"rise I0 0", "rise I1 0", "rise I0 0", "end"}, look{acc: true, state: "0 - 10"}},
		{[]string{"rise I0 0", "fall I1 0", "end"}, look{acc: true, state: "0 - 00"}},
		{[]string{"rise I0 0", "rise I0 1", "end"}, look{acc: true, state: "0 - 11"}},
		{[]string{"rise I0 1", "st Q0", "rise Q0 0", "fall I1 1", "end"}, look{acc: true, state: "1 - 10"}},
		{[]string{"fall I0 0", "fall I1 0", "push", "fall I1 0", "end"}, look{acc: false, stack: "1", state: "0 - 00"}},
	} {
		mustReach(t, assembled(t, c.texts...), bits("10"), parsed("0 - 00"), c.want)
	}
}

func TestEdgesAtTheLastSlot(t *testing.T) {
	st := api.State{E: make([]bool, api.MaxSlots)}
	code := assembled(t, "rise I0 16383", "rise I0 0", "fall I1 16382", "end")
	behind := api.State{E: setBit(setBit(st.E, 0, true), 16383, true)}
	mustReach(t, code, bits("10"), st, look{state: state.Format(behind)})
}

func TestPushKeepsTheAccumulator(t *testing.T) {
	for _, acc := range both {
		code := with(accTo(acc), api.Ins{Op: api.Push}, api.Ins{Op: api.Push}, api.Ins{Op: api.End})
		mustReach(t, code, bits("1"), parsed("01 10 0"), look{acc: acc, stack: digit(acc) + digit(acc), state: "01 10 0"})
	}
}

func TestJoins(t *testing.T) {
	for _, c := range []struct {
		op                int
		popped, acc, want bool
	}{
		{api.Andp, false, false, false}, {api.Andp, false, true, false}, {api.Andp, true, false, false}, {api.Andp, true, true, true},
		{api.Orp, false, false, false}, {api.Orp, false, true, true}, {api.Orp, true, false, true}, {api.Orp, true, true, true},
	} {
		for _, below := range both {
			code := with(accTo(below), api.Ins{Op: api.Push})
			code = with(with(code, accTo(c.popped)...), api.Ins{Op: api.Push})
			code = with(with(code, accTo(c.acc)...), api.Ins{Op: c.op}, api.Ins{Op: api.End})
			mustReach(t, code, bits("1"), parsed("1 0 1"), look{acc: c.want, stack: digit(below), state: "1 0 1"})
		}
	}
}

func TestJoinsPopTheTopElement(t *testing.T) {
	pushes := assembled(t, "ld I0", "push", "ld I1", "push", "push", "ld I0")
	for _, c := range []struct {
		texts []string
		want  look
	}{
		{nil, look{acc: true, stack: "100", state: "- - -"}},
		{[]string{"andp"}, look{acc: false, stack: "10", state: "- - -"}},
		{[]string{"andp", "orp"}, look{acc: false, stack: "1", state: "- - -"}},
		{[]string{"andp", "orp", "orp"}, look{acc: true, stack: "", state: "- - -"}},
		{[]string{"andp", "orp", "andp"}, look{acc: false, stack: "", state: "- - -"}},
		{[]string{"andp", "push", "orp", "ld I0", "push"}, look{acc: true, stack: "101", state: "- - -"}},
	} {
		mustReach(t, with(with(pushes, assembled(t, c.texts...)...), api.Ins{Op: api.End}), bits("10"), api.State{}, c.want)
	}
}

func TestStores(t *testing.T) {
	for _, c := range []struct {
		op              int
		acc, bit, after bool
	}{
		{api.St, false, false, false}, {api.St, false, true, false}, {api.St, true, false, true}, {api.St, true, true, true},
		{api.Stn, false, false, true}, {api.Stn, false, true, true}, {api.Stn, true, false, false}, {api.Stn, true, true, false},
		{api.Set, false, false, false}, {api.Set, false, true, true}, {api.Set, true, false, true}, {api.Set, true, true, true},
		{api.Rst, false, false, false}, {api.Rst, false, true, true}, {api.Rst, true, false, false}, {api.Rst, true, true, false},
	} {
		for _, space := range []int{api.Output, api.Memory} {
			in, st := bitAt(space, c.bit)
			_, behind := bitAt(space, c.bit)
			[][]bool{in, behind.Q, behind.M}[space][1] = c.after
			x := api.Ins{Op: c.op, A: api.Addr{Space: space, N: 1}}
			code := with(accTo(c.acc), api.Ins{Op: api.Push}, x, api.Ins{Op: api.End})
			mustReach(t, code, in, st, look{acc: c.acc, stack: digit(c.acc), state: state.Format(behind)})
		}
	}
}

func TestStoresAtTheLimits(t *testing.T) {
	st := api.State{Q: make([]bool, api.MaxBits), M: make([]bool, api.MaxBits)}
	behind := api.State{Q: setBit(setBit(st.Q, 0, true), 255, true), M: setBit(setBit(st.M, 0, true), 255, true)}
	mustReach(t, assembled(t, "stn Q0", "stn Q255", "stn M0", "stn M255", "end"), nil, st, look{state: state.Format(behind)})
}

// TestStoresKeepTheSlots writes between edge instructions, so that the slots
// that are stored before a write must outlast it.
func TestStoresKeepTheSlots(t *testing.T) {
	code := assembled(t, "rise I0 1", "st Q0", "set M0", "rise I0 0", "rst Q0", "stn M1", "rise I0 1", "end")
	mustReach(t, code, bits("1"), parsed("0 00 001"), look{state: "0 10 111"})
}

// TestStoresValidateTheirAddress tries addresses that cannot be written, with
// the accumulator true and false.
func TestStoresValidateTheirAddress(t *testing.T) {
	st := parsed("00 111 0")
	for _, o := range stores {
		for _, acc := range both {
			for _, c := range []struct {
				a     api.Addr
				fault api.Errno
			}{
				{api.Addr{Space: api.Output, N: 2}, api.ErrRange}, {api.Addr{Space: api.Output, N: -1}, api.ErrRange},
				{api.Addr{Space: api.Memory, N: 3}, api.ErrRange}, {api.Addr{Space: api.Memory, N: 255}, api.ErrRange},
				{api.Addr{Space: api.Input, N: 0}, api.ErrKind}, {api.Addr{Space: api.Input, N: 1}, api.ErrKind},
				{api.Addr{Space: api.Input, N: 9}, api.ErrKind}, {api.Addr{Space: api.Input, N: -1}, api.ErrKind},
				{api.Addr{Space: 3, N: 0}, api.ErrKind}, {api.Addr{Space: -1, N: 0}, api.ErrKind},
				{api.Addr{Space: 3, N: 99}, api.ErrKind},
			} {
				code := with(accTo(acc), api.Ins{Op: o, A: c.a}, api.Ins{Op: api.End})
				mustFault(t, code, bits("10"), st, 1, c.fault)
			}
		}
	}
}

// TestJump tries targets of the jump at index 2 of 6 instructions.
func TestJump(t *testing.T) {
	for _, c := range []struct {
		n     int
		fault api.Errno
	}{
		{3, api.OK}, {4, api.OK}, {5, api.OK},
		{2, api.ErrOrder}, {1, api.ErrOrder}, {0, api.ErrOrder},
		{6, api.ErrRange}, {7, api.ErrRange}, {65535, api.ErrRange}, {-1, api.ErrRange}, {-2, api.ErrRange}, {-3, api.ErrRange},
		{1<<32 + 3, api.ErrRange}, {-1<<32 + 3, api.ErrRange}, {math.MinInt, api.ErrRange}, {math.MinInt + 3, api.ErrRange},
		{math.MaxInt, api.ErrRange}, {math.MaxInt - 1, api.ErrRange},
	} {
		for _, acc := range both {
			code := with(accTo(acc), api.Ins{Op: api.Push}, api.Ins{Op: api.Jmpc, N: c.n}, api.Ins{Op: api.Ld}, api.Ins{Op: api.Push}, api.Ins{Op: api.End})
			if c.fault != api.OK {
				mustFault(t, code, bits("1"), api.State{}, 2, c.fault)
				continue
			}
			m := New(code, bits("1"), api.State{})
			mustStep(t, m, 3)
			want := look{acc: acc, depth: 1, stack: digit(acc), at: 3, state: "- - -"}
			if acc {
				want.at = c.n
			}
			if got := lookAt(m); got != want {
				t.Errorf("a jump to %d with the accumulator %v leads to %v, want %v", c.n, acc, got, want)
			}
		}
	}
}

func TestJumpInShortPrograms(t *testing.T) {
	for _, c := range []struct {
		before, n, behind int
		fault             api.Errno
	}{
		{0, 0, 0, api.ErrOrder}, {0, 1, 0, api.ErrRange}, {0, -1, 0, api.ErrRange}, {0, 1, 1, api.OK}, {0, 2, 1, api.ErrRange},
		{1, 1, 0, api.ErrOrder}, {1, 0, 0, api.ErrOrder}, {1, 2, 0, api.ErrRange}, {3, 3, 0, api.ErrOrder}, {3, 4, 0, api.ErrRange},
	} {
		code := slices.Repeat([]api.Ins{{Op: api.Ld}}, c.before)
		code = with(code, api.Ins{Op: api.Jmpc, N: c.n})
		code = with(code, slices.Repeat([]api.Ins{{Op: api.End}}, c.behind)...)
		for _, in := range []string{"0", "1"} {
			if c.fault != api.OK {
				mustFault(t, code, bits(in), api.State{}, c.before, c.fault)
				continue
			}
			mustRun(t, code, bits(in), api.State{}, outcome{"- - -", c.before + 2, c.before + 1, api.OK})
		}
	}
}

func TestJumpOverInstructionsThatWouldFault(t *testing.T) {
	code := assembled(t, "ld I0", "jmpc 5", "ld I9", "andp", "st I0", "st Q0", "end")
	mustRun(t, code, bits("1"), parsed("0 - -"), outcome{"1 - -", 4, 6, api.OK})
	mustRun(t, code, bits("0"), parsed("0 - -"), outcome{"0 - -", 2, 2, api.ErrRange})
}

func TestEndHalts(t *testing.T) {
	for _, acc := range both {
		code := with(accTo(acc), api.Ins{Op: api.Push}, api.Ins{Op: api.End}, api.Ins{Op: api.Stn, A: api.Addr{Space: api.Output}}, api.Ins{Op: api.End})
		m := New(code, bits("1"), parsed("0 - -"))
		mustStep(t, m, 2)
		before := lookAt(m)
		if ok, e := m.Step(); ok || e != api.OK {
			t.Errorf("Step() at an end = %v, %v", ok, e)
		}
		if after := lookAt(m); after != before || after.at != 2 {
			t.Errorf("the end made %v of %v", after, before)
		}
		mustStayHalted(t, m, api.OK)
	}
}

// TestOperandsThatAreNotUsed gives each opcode values for the operands that it
// does not use; the program's outcome must be as without them.
func TestOperandsThatAreNotUsed(t *testing.T) {
	in, st := bits("10"), parsed("01 10 10")
	for o := range api.Ops {
		x := api.Ins{Op: o}
		if slices.Contains(stores, o) {
			x.A.Space = api.Memory
		}
		if o == api.Jmpc {
			x.N = 4
		}
		for _, acc := range both {
			want := outcomeOf(Run(aroundUnused(acc, x), in, st))
			if want.fault != api.OK {
				t.Fatalf("%v: %v", x, want)
			}
			for _, n := range append([]int{1, 2, 3, 4, 5, 65535}, extremes...) {
				if !usesNumber(o) {
					y := x
					y.N = n
					mustRun(t, aroundUnused(acc, y), in, st, want)
				}
				if !usesAddress(o) {
					for _, a := range []api.Addr{{Space: n}, {N: n}, {Space: n, N: n}, {Space: n, N: -1}} {
						y := x
						y.A = a
						mustRun(t, aroundUnused(acc, y), in, st, want)
					}
				}
			}
		}
	}
}

// aroundUnused returns a program in which x, at index 2, faults on no operand
// that it uses, and that stores the accumulator behind it.
func aroundUnused(acc bool, x api.Ins) []api.Ins {
	return with(accTo(acc), api.Ins{Op: api.Push}, x, api.Ins{Op: api.St, A: api.Addr{Space: api.Output}}, api.Ins{Op: api.End})
}

// prologues are programs behind which accumulator, stack and state differ. None
// of them halts on the input image 10.
func prologues(t *testing.T) [][]api.Ins {
	return [][]api.Ins{
		nil,
		assembled(t, "ld I0"),
		assembled(t, "ld I0", "push", "ld I1"),
		assembled(t, "rise I0 0", "push", "st Q0", "set M1", "push", "stn M0"),
		assembled(t, "ld I0", "push", "ldn I0", "push", "fall I1 1", "st Q1"),
	}
}

func TestUnknownOpcodes(t *testing.T) {
	for _, p := range prologues(t) {
		for _, o := range append([]int{17, 18, 32, 33, 255, 256, 1<<32 + 16, math.MinInt + 16}, extremes...) {
			for _, x := range []api.Ins{{Op: o}, {Op: o, A: api.Addr{Space: api.Output}, N: len(p) + 1}, {Op: o, A: api.Addr{Space: -1, N: -1}, N: -1}} {
				mustFault(t, with(p, x, api.Ins{Op: api.End}), bits("10"), parsed("00 00 01"), len(p), api.ErrKind)
			}
		}
	}
}

func TestReadsOfAddressesThatDoNotExist(t *testing.T) {
	in, st := bits("10"), parsed("010 1010 01")
	sizes := []int{2, 3, 4}
	for _, p := range prologues(t) {
		for _, o := range readers {
			for space, size := range sizes {
				for _, n := range append([]int{size, size + 1, 255, 256}, extremes...) {
					x := api.Ins{Op: o, A: api.Addr{Space: space, N: n}}
					mustFault(t, with(p, x, api.Ins{Op: api.End}), in, st, len(p), api.ErrRange)
				}
			}
			for _, space := range append([]int{3, 4, 255, 256}, extremes...) {
				for _, n := range []int{0, 1, 9, -1, math.MinInt, math.MaxInt} {
					x := api.Ins{Op: o, A: api.Addr{Space: space, N: n}}
					mustFault(t, with(p, x, api.Ins{Op: api.End}), in, st, len(p), api.ErrKind)
				}
			}
		}
	}
}

func TestStoresAtAddressesThatDoNotExist(t *testing.T) {
	in, st := bits("10"), parsed("010 1010 01")
	for _, p := range prologues(t) {
		for _, o := range stores {
			for space, size := range map[int]int{api.Output: 3, api.Memory: 4} {
				for _, n := range append([]int{size, size + 1, 255, 256}, extremes...) {
					x := api.Ins{Op: o, A: api.Addr{Space: space, N: n}}
					mustFault(t, with(p, x, api.Ins{Op: api.End}), in, st, len(p), api.ErrRange)
				}
			}
			for _, space := range append([]int{api.Input, 3, 4, 255, 256}, extremes...) {
				for _, n := range []int{0, 1, 9, -1, math.MinInt, math.MaxInt} {
					x := api.Ins{Op: o, A: api.Addr{Space: space, N: n}}
					mustFault(t, with(p, x, api.Ins{Op: api.End}), in, st, len(p), api.ErrKind)
				}
			}
		}
	}
}

// TestSlotsThatDoNotExist also tries them beside addresses that do not exist,
// whose error comes first.
func TestSlotsThatDoNotExist(t *testing.T) {
	in, st := bits("10"), parsed("010 1010 01")
	for _, p := range prologues(t) {
		for _, o := range edges {
			for _, slot := range append([]int{2, 3, 4, api.MaxSlots - 1, api.MaxSlots}, extremes...) {
				for _, c := range []struct {
					a     api.Addr
					fault api.Errno
				}{
					{api.Addr{Space: api.Input, N: 0}, api.ErrRange}, {api.Addr{Space: api.Input, N: 1}, api.ErrRange},
					{api.Addr{Space: api.Output, N: 1}, api.ErrRange}, {api.Addr{Space: api.Memory, N: 2}, api.ErrRange},
					{api.Addr{Space: api.Memory, N: 4}, api.ErrRange},
					{api.Addr{Space: 3}, api.ErrKind}, {api.Addr{Space: -1, N: -1}, api.ErrKind},
				} {
					x := api.Ins{Op: o, A: c.a, N: slot}
					mustFault(t, with(p, x, api.Ins{Op: api.End}), in, st, len(p), c.fault)
				}
			}
		}
	}
}

func TestPushOnFullStack(t *testing.T) {
	for _, acc := range both {
		code := with(accTo(acc), slices.Repeat([]api.Ins{{Op: api.Push}}, api.MaxDepth)...)
		m := New(code, bits("1"), api.State{})
		mustStep(t, m, len(code))
		if m.Depth() != 64 {
			t.Errorf("64 pushes lead to depth %d", m.Depth())
		}
		mustFault(t, code, bits("1"), api.State{}, len(code), api.ErrShort)
		mustFault(t, with(code, api.Ins{Op: api.Push}, api.Ins{Op: api.End}), bits("1"), api.State{}, len(code), api.ErrFull)
	}
}

// TestPushWhereThereIsRoomAgain fills the stack, takes an element from it, and
// pushes again.
func TestPushWhereThereIsRoomAgain(t *testing.T) {
	code := slices.Repeat([]api.Ins{{Op: api.Push}}, api.MaxDepth)
	for _, o := range joins {
		again := with(code, api.Ins{Op: o}, api.Ins{Op: api.Push})
		mustFault(t, with(again, api.Ins{Op: api.Push}), nil, api.State{}, len(again), api.ErrFull)
		mustFault(t, again, nil, api.State{}, len(again), api.ErrShort)
	}
}

func TestWholeStackIsPopped(t *testing.T) {
	code := slices.Repeat([]api.Ins{{Op: api.Push}}, api.MaxDepth)
	code = with(code, slices.Repeat([]api.Ins{{Op: api.Orp}}, api.MaxDepth)...)
	mustFault(t, with(code, api.Ins{Op: api.Andp}), nil, api.State{}, len(code), api.ErrStack)
	mustReach(t, with(code, api.Ins{Op: api.End}), nil, api.State{}, look{state: "- - -"})
}

func TestJoinsOnEmptyStack(t *testing.T) {
	st := parsed("01 10 1")
	for _, o := range joins {
		for _, acc := range both {
			code := with(accTo(acc), api.Ins{Op: o}, api.Ins{Op: api.End})
			mustFault(t, code, bits("1"), st, 1, api.ErrStack)
			emptied := with(accTo(acc), api.Ins{Op: api.Push}, api.Ins{Op: api.Orp}, api.Ins{Op: o})
			mustFault(t, emptied, bits("1"), st, 3, api.ErrStack)
		}
		mustFault(t, []api.Ins{{Op: o}}, nil, api.State{}, 0, api.ErrStack)
	}
}

func TestImagesWithoutBits(t *testing.T) {
	for _, st := range []api.State{{}, {Q: []bool{}, M: []bool{}, E: []bool{}}} {
		for _, in := range [][]bool{nil, {}} {
			for _, n := range append([]int{0, 1}, extremes...) {
				for _, o := range readers {
					for space := range 3 {
						mustFault(t, []api.Ins{{Op: o, A: api.Addr{Space: space, N: n}, N: n}}, in, st, 0, api.ErrRange)
					}
				}
				for _, o := range stores {
					for space, fault := range []api.Errno{api.ErrKind, api.ErrRange, api.ErrRange} {
						mustFault(t, []api.Ins{{Op: o, A: api.Addr{Space: space, N: n}}}, in, st, 0, fault)
					}
				}
				for _, o := range edges {
					mustFault(t, []api.Ins{{Op: o, N: n}}, bits("1"), st, 0, api.ErrRange)
				}
			}
			mustRun(t, assembled(t, "push", "orp", "jmpc 4", "push", "end"), in, st, outcome{"- - -", 5, 4, api.OK})
		}
	}
}

// TestImagesShorterAndLonger runs one program on images that are too short for
// it, that just suffice, and that exceed even the limits of a size.
func TestImagesShorterAndLonger(t *testing.T) {
	code := assembled(t, "ld I2", "st Q1", "stn M2", "rise Q1 1", "end")
	for _, c := range []struct {
		in, st string
		want   outcome
	}{
		{"11", "00 000 00", outcome{"00 000 00", 0, 0, api.ErrRange}},
		{"111", "0 000 00", outcome{"0 000 00", 1, 1, api.ErrRange}},
		{"111", "00 00 00", outcome{"01 00 00", 2, 2, api.ErrRange}},
		{"111", "00 000 0", outcome{"01 000 0", 3, 3, api.ErrRange}},
		{"111", "00 000 00", outcome{"01 000 01", 5, 4, api.OK}},
		{"1101", "0000 0000 0000", outcome{"0000 0010 0000", 5, 4, api.OK}},
	} {
		mustRun(t, code, bits(c.in), parsed(c.st), c.want)
	}
	long := api.State{Q: make([]bool, 300), M: make([]bool, 400), E: make([]bool, api.MaxSlots+9)}
	behind := api.State{Q: setBit(long.Q, 299, true), M: setBit(long.M, 399, true), E: setBit(long.E, api.MaxSlots+8, true)}
	code = []api.Ins{{Op: api.Ld, A: api.Addr{N: 999}}, {Op: api.St, A: api.Addr{Space: 1, N: 299}}, {Op: api.Set, A: api.Addr{Space: 2, N: 399}}, {Op: api.Rise, A: api.Addr{N: 999}, N: api.MaxSlots + 8}, {Op: api.End}}
	mustRun(t, code, setBit(make([]bool, 1000), 999, true), long, outcome{state.Format(behind), 5, 4, api.OK})
}

// TestImagesEndAtTheirLength hands in images that have room for more bits.
func TestImagesEndAtTheirLength(t *testing.T) {
	in, whole := bits("11111"), parsed("11111 11111 11111")
	st := api.State{Q: whole.Q[:1], M: whole.M[1:3], E: whole.E[:2]}
	for _, c := range []struct {
		x     api.Ins
		fault api.Errno
	}{
		{api.Ins{Op: api.Ld, A: api.Addr{N: 2}}, api.ErrRange},
		{api.Ins{Op: api.Ld, A: api.Addr{Space: api.Output, N: 1}}, api.ErrRange},
		{api.Ins{Op: api.Ld, A: api.Addr{Space: api.Memory, N: 2}}, api.ErrRange},
		{api.Ins{Op: api.Stn, A: api.Addr{Space: api.Output, N: 1}}, api.ErrRange},
		{api.Ins{Op: api.Rst, A: api.Addr{Space: api.Memory, N: 2}}, api.ErrRange},
		{api.Ins{Op: api.Fall, N: 2}, api.ErrRange},
	} {
		mustFault(t, with(accTo(true), c.x), in[:2], st, 1, c.fault)
	}
	if state.Format(whole) != "11111 11111 11111" || slices.Contains(in, false) {
		t.Error("the images around the arguments are changed")
	}
}
