package vm

import (
	"slices"
	"sync"
	"testing"

	"busbar/api"
	"busbar/state"
)

// P6.1

func TestNewHasNotExecutedAnything(t *testing.T) {
	for _, code := range [][]api.Ins{
		nil, {}, {{Op: api.End}}, {{Op: -1}}, {{Op: api.Ldn}}, {{Op: api.Push}}, {{Op: api.Andp}}, {{Op: api.Jmpc, N: 9}},
		assembled(t, "rise I0 0", "stn Q0", "end"),
	} {
		for _, in := range [][]bool{nil, {}, {true}, {false, true}} {
			for _, s := range []string{"- - -", "10 - 1", "0 11 0", "- - 01"} {
				m := New(code, in, parsed(s))
				if got := lookAt(m); got != (look{state: s}) {
					t.Errorf("New(%v, %v, %s) = %v", code, in, s, got)
				}
			}
		}
	}
}

func TestStepOrdinary(t *testing.T) {
	m := New(assembled(t, "rise I0 1", "push", "st Q0", "ldn I0", "orp", "stn M1", "jmpc 8", "set Q1", "end"), bits("1"), parsed("00 11 00"))
	for i, want := range []look{
		{true, 0, "", 1, "00 11 01"},
		{true, 1, "1", 2, "00 11 01"},
		{true, 1, "1", 3, "10 11 01"},
		{false, 1, "1", 4, "10 11 01"},
		{true, 0, "", 5, "10 11 01"},
		{true, 0, "", 6, "10 10 01"},
		{true, 0, "", 8, "10 10 01"},
	} {
		if ok, e := m.Step(); !ok || e != api.OK {
			t.Fatalf("step %d = %v, %v", i, ok, e)
		}
		if got := lookAt(m); got != want {
			t.Fatalf("step %d leads to %v, want %v", i, got, want)
		}
	}
	if ok, e := m.Step(); ok || e != api.OK {
		t.Errorf("the last step = %v, %v", ok, e)
	}
	mustStayHalted(t, m, api.OK)
	if m.At() != 8 {
		t.Errorf("the end is at %d", m.At())
	}
}

// endings returns a program for each way to halt, with the number of steps
// that the machine continues before, and the fault.
func endings(t *testing.T) []struct {
	code  []api.Ins
	steps int
	fault api.Errno
} {
	full := slices.Repeat([]api.Ins{{Op: api.Push}}, api.MaxDepth+1)
	return []struct {
		code  []api.Ins
		steps int
		fault api.Errno
	}{
		{assembled(t, "ld I0", "push", "end"), 2, api.OK},
		{assembled(t, "end"), 0, api.OK},
		{assembled(t, "ld I0", "end", "ld I9", "end"), 1, api.OK},
		{nil, 0, api.ErrShort},
		{assembled(t, "ld I0", "st Q0"), 2, api.ErrShort},
		{assembled(t, "ld I0", "jmpc 2", "push"), 3, api.ErrShort},
		{with(assembled(t, "ld I0", "push"), api.Ins{Op: 17}), 2, api.ErrKind},
		{with(assembled(t, "ld I0", "push"), api.Ins{Op: api.Ld, A: api.Addr{Space: 3}}), 2, api.ErrKind},
		{assembled(t, "ld I0", "push", "ld I9"), 2, api.ErrRange},
		{assembled(t, "ld I0", "st I0"), 1, api.ErrKind},
		{assembled(t, "ld I0", "st Q9"), 1, api.ErrRange},
		{assembled(t, "ld I0", "rise I0 9"), 1, api.ErrRange},
		{full, api.MaxDepth, api.ErrFull},
		{assembled(t, "ld I0", "andp", "end"), 1, api.ErrStack},
		{assembled(t, "ld I0", "push", "orp", "orp", "end"), 3, api.ErrStack},
		{assembled(t, "ld I0", "jmpc 3", "end"), 1, api.ErrRange},
		{assembled(t, "ldn I0", "jmpc 3", "end"), 1, api.ErrRange},
		{assembled(t, "ld I0", "jmpc 1", "end"), 1, api.ErrOrder},
		{assembled(t, "ldn I0", "push", "jmpc 0", "end"), 2, api.ErrOrder},
	}
}

func TestStepOfHaltedMachine(t *testing.T) {
	for _, c := range endings(t) {
		m := New(c.code, bits("1"), parsed("0 0 0"))
		mustStep(t, m, c.steps)
		if ok, e := m.Step(); ok || e != c.fault {
			t.Errorf("%v: Step() = %v, %v, want %v", c.code, ok, e, c.fault)
		}
		mustStayHalted(t, m, c.fault)
		if m.At() != c.steps {
			t.Errorf("%v halts at %d, want %d", c.code, m.At(), c.steps)
		}
	}
}

// TestHaltedMachineKeepsItsFault asks everything else of a halted machine
// before it steps it again.
func TestHaltedMachineKeepsItsFault(t *testing.T) {
	for _, c := range endings(t) {
		m := New(c.code, bits("1"), parsed("0 0 0"))
		mustStep(t, m, c.steps)
		m.Step()
		for range 2 {
			spoilState(m.State())
			lookAt(m)
			if ok, e := m.Step(); ok || e != c.fault {
				t.Errorf("%v: Step() = %v, %v, want %v", c.code, ok, e, c.fault)
			}
		}
	}
}

func TestNewChangesNoArgument(t *testing.T) {
	code := assembled(t, "rise I0 0", "stn Q0", "set M1", "end", "push", "push")
	in, st := bits("10111"), parsed("0111 0000 0011")
	codeBefore := slices.Clone(code)
	m := New(code[:4], in[:2], api.State{Q: st.Q[:2], M: st.M[:2], E: st.E[:2]})
	mustStep(t, m, 3)
	m.Step()
	spoilState(m.State())
	if !slices.Equal(code, codeBefore) || !slices.Equal(in, bits("10111")) || state.Format(st) != "0111 0000 0011" {
		t.Errorf("the arguments are now %v, %v and %s", code, in, state.Format(st))
	}
}

func TestProgramEndsAtItsLength(t *testing.T) {
	code := assembled(t, "ld I0", "jmpc 3", "st Q0", "end")
	mustFault(t, code[:3], bits("1"), parsed("0 - -"), 1, api.ErrRange)
	mustFault(t, code[2:3], bits("1"), parsed("0 - -"), 1, api.ErrShort)
	mustFault(t, code[:0], bits("1"), parsed("0 - -"), 0, api.ErrShort)
}

// TestLaterChangesOfArguments changes all arguments before the given step; what
// follows must be as if they had not changed.
func TestLaterChangesOfArguments(t *testing.T) {
	texts := []string{"ld I0", "andn I1", "st Q1", "fall I1 0", "or Q0", "set M0", "rise I0 1", "jmpc 9", "st M1", "end"}
	in, st := "10", "10 01 10"
	want := New(assembled(t, texts...), bits(in), parsed(st))
	mustStep(t, want, 8)
	for before := range 9 {
		code, image, start := assembled(t, texts...), bits(in), parsed(st)
		m := New(code, image, start)
		mustStep(t, m, before)
		for i := range code {
			code[i] = api.Ins{Op: -1}
		}
		spoil(image)
		spoilState(start)
		mustStep(t, m, 8-before)
		if got := lookAt(m); got != lookAt(want) {
			t.Errorf("after changes before step %d: %v, want %v", before, got, lookAt(want))
		}
	}
}

func TestStateIsNewlyAllocated(t *testing.T) {
	code := assembled(t, "rise I0 0", "st Q0", "stn M0", "fall I1 1", "end")
	m := New(code, bits("10"), parsed("01 10 01"))
	for {
		want := state.Format(m.State())
		one, two := m.State(), m.State()
		spoilState(one)
		if got := state.Format(m.State()); got != want {
			t.Fatalf("at %d: a returned state that is changed makes %s of %s", m.At(), got, want)
		}
		if state.Format(two) != want {
			t.Fatalf("at %d: two returned states share memory", m.At())
		}
		if ok, _ := m.Step(); !ok {
			break
		}
		if state.Format(two) != want {
			t.Fatalf("at %d: a step changes a returned state", m.At())
		}
	}
	if got := state.Format(m.State()); got != "11 00 10" {
		t.Errorf("the program leads to %s", got)
	}
}

func TestTwoMachinesInTurn(t *testing.T) {
	code := assembled(t, "rise I0 0", "push", "st Q0", "ldn I0", "andp", "orp", "end")
	image, start := bits("1"), parsed("0 - 0")
	one, two := New(code, image, start), New(code, image, start)
	alone := New(code, image, start)
	for range len(code) {
		oneOK, oneFault := one.Step()
		if lookAt(two) != lookAt(alone) {
			t.Fatalf("a step of another machine makes %v of %v", lookAt(two), lookAt(alone))
		}
		twoOK, twoFault := two.Step()
		if oneOK != twoOK || oneFault != twoFault || lookAt(one) != lookAt(two) {
			t.Fatalf("%v, %v, %v and %v, %v, %v", oneOK, oneFault, lookAt(one), twoOK, twoFault, lookAt(two))
		}
		alone.Step()
	}
	mustStayHalted(t, one, api.ErrStack)
	mustStayHalted(t, two, api.ErrStack)
}

// TestTwoMachinesOfOneState starts two different programs on one state.
func TestTwoMachinesOfOneState(t *testing.T) {
	st := parsed("00 00 00")
	one := New(assembled(t, "ldn I0", "st Q0", "rise Q0 0", "end"), bits("0"), st)
	two := New(assembled(t, "ldn I0", "st M1", "rise M1 1", "end"), bits("0"), st)
	for range 4 {
		one.Step()
		two.Step()
	}
	if a, b := state.Format(one.State()), state.Format(two.State()); a != "10 00 10" || b != "00 01 01" || state.Format(st) != "00 00 00" {
		t.Errorf("%s, %s, %s", a, b, state.Format(st))
	}
}

func TestNilMachine(t *testing.T) {
	var m *Machine
	for range 2 {
		if ok, e := m.Step(); ok || e != api.ErrNil {
			t.Errorf("Step() = %v, %v", ok, e)
		}
		if m.Acc() || m.Depth() != 0 || m.At() != 0 {
			t.Errorf("Acc() = %v, Depth() = %d, At() = %d", m.Acc(), m.Depth(), m.At())
		}
		if st := m.State(); state.Format(st) != "- - -" {
			t.Errorf("State() = %s", state.Format(st))
		}
	}
}

// P6.2

func TestRunOrdinary(t *testing.T) {
	for _, c := range []struct {
		texts []string
		want  outcome
	}{
		{[]string{"ld I0", "st Q0", "end"}, outcome{"10 00 10", 3, 2, api.OK}},
		{[]string{"ldn I0", "stn Q0", "stn M1", "end"}, outcome{"10 01 10", 4, 3, api.OK}},
		{[]string{"ld I0", "set Q1", "st M0", "rst Q1", "end"}, outcome{"00 10 10", 5, 4, api.OK}},
		{[]string{"rise I0 1", "st Q0", "rise I0 1", "st Q1", "end"}, outcome{"10 00 11", 5, 4, api.OK}},
		{[]string{"fall I1 0", "st Q0", "fall I1 0", "st Q1", "end"}, outcome{"10 00 00", 5, 4, api.OK}},
		{[]string{"ld I0", "push", "ld I1", "andp", "st Q0", "push", "ld I0", "orp", "st Q1", "end"}, outcome{"01 00 10", 10, 9, api.OK}},
		{[]string{"ld I0", "jmpc 3", "st Q0", "st Q1", "end"}, outcome{"01 00 10", 4, 4, api.OK}},
		{[]string{"ld I1", "jmpc 3", "stn Q0", "end"}, outcome{"10 00 10", 4, 3, api.OK}},
		{[]string{"ld I0", "jmpc 4", "end", "st Q0", "st Q1", "end", "st M0"}, outcome{"01 00 10", 4, 5, api.OK}},
		{[]string{"end", "ldn I1", "st Q0"}, outcome{"00 00 10", 1, 0, api.OK}},
		{[]string{"ld I0", "push", "end"}, outcome{"00 00 10", 3, 2, api.OK}},
	} {
		mustRun(t, assembled(t, c.texts...), bits("10"), parsed("00 00 10"), c.want)
	}
}

func TestRunBehindEachEnding(t *testing.T) {
	for _, c := range endings(t) {
		m := New(c.code, bits("1"), parsed("0 0 0"))
		mustStep(t, m, c.steps)
		want := outcome{state.Format(m.State()), c.steps, c.steps, c.fault}
		if c.fault == api.OK {
			want.steps++
		}
		mustRun(t, c.code, bits("1"), parsed("0 0 0"), want)
	}
}

func TestRunOffTheEnd(t *testing.T) {
	for _, c := range []struct {
		texts     []string
		steps, at int
	}{
		{nil, 0, 0},
		{[]string{"ld I0"}, 1, 1},
		{[]string{"ld I0", "push", "orp"}, 3, 3},
		{[]string{"ld I0", "jmpc 3", "push", "push"}, 3, 4},
		{[]string{"ldn I0", "jmpc 3", "push", "push"}, 4, 4},
		{[]string{"ld I0", "jmpc 3", "end", "jmpc 4", "push"}, 4, 5},
	} {
		mustRun(t, assembled(t, c.texts...), bits("1"), api.State{}, outcome{"- - -", c.steps, c.at, api.ErrShort})
	}
	mustRun(t, []api.Ins{}, nil, parsed("1 0 1"), outcome{"1 0 1", 0, 0, api.ErrShort})
}

func TestRunLongPrograms(t *testing.T) {
	for _, many := range []int{1000, api.MaxCode, api.MaxCode + 1, 200000} {
		code := slices.Repeat(assembled(t, "ldn M0", "st Q0"), many/2)
		st := parsed("0 0 0")
		mustRun(t, code, nil, st, outcome{"1 0 0", len(code), len(code), api.ErrShort})
		mustRun(t, with(code, api.Ins{Op: api.End}), nil, st, outcome{"1 0 0", len(code) + 1, len(code), api.OK})
		code[1] = api.Ins{Op: api.Jmpc, N: len(code) - 1}
		mustRun(t, with(code, api.Ins{Op: api.End}), nil, st, outcome{"1 0 0", 4, len(code), api.OK})
	}
}

func TestRunReturnsNewState(t *testing.T) {
	for _, texts := range [][]string{{"end"}, {"ldn Q9"}, nil, {"rise I0 0", "st Q0", "end"}} {
		code, st := assembled(t, texts...), parsed("10 01 11")
		one, two := Run(code, bits("1"), st), Run(code, bits("1"), st)
		want := state.Format(two.State)
		spoilState(one.State)
		if state.Format(two.State) != want || state.Format(st) != "10 01 11" {
			t.Errorf("%v: a state that Run returned shares memory", texts)
		}
		spoilState(st)
		if state.Format(two.State) != want {
			t.Errorf("%v: the state that Run returned changes with the argument", texts)
		}
	}
}

// mustAgree checks that Run returns what the reference returns.
func mustAgree(t *testing.T, code []api.Ins, in []bool, st api.State) {
	t.Helper()
	mustRun(t, code, in, st, reference(code, in, st))
}

// alphabet holds instructions of every opcode, some of which fault on the
// inputs and the state of TestRunShortPrograms.
func alphabet(t *testing.T) []api.Ins {
	l := assembled(t,
		"ld I0", "ldn I0", "and I0", "andn Q0", "or Q0", "orn I0", "ld M0", "rise I0 0", "fall Q0 0", "push", "andp", "orp",
		"st Q0", "stn Q0", "set Q0", "rst Q0", "st I0", "jmpc 0", "jmpc 1", "jmpc 2", "jmpc 3", "end")
	return with(l, api.Ins{Op: 17}, api.Ins{Op: api.Jmpc, N: -1})
}

func TestRunShortPrograms(t *testing.T) {
	l := alphabet(t)
	var code []api.Ins
	var extend func(more int)
	extend = func(more int) {
		for _, in := range []string{"0", "1"} {
			for _, st := range []string{"0 - 1", "1 - 0"} {
				mustAgree(t, code, bits(in), parsed(st))
			}
		}
		if more == 0 {
			return
		}
		for _, x := range l {
			code = append(code, x)
			extend(more - 1)
			code = code[:len(code)-1]
		}
	}
	extend(3)
}

// anyProgram returns a program of less than most instructions that fault
// rarely.
func anyProgram(pick func(int) int, most int) []api.Ins {
	var code []api.Ins
	depth := 0
	for at := range pick(most) {
		x := api.Ins{Op: pick(api.Ops), A: api.Addr{Space: pick(3), N: pick(4)}, N: pick(4)}
		rarely := pick(30) == 0
		switch {
		case rarely:
		case x.Op == api.End, slices.Contains(joins, x.Op) && depth == 0:
			x.Op = api.Push
		case slices.Contains(stores, x.Op):
			x.A.Space = 1 + pick(2)
		case x.Op == api.Jmpc:
			x.N += at + 1
		}
		switch x.Op {
		case api.Push:
			depth++
		case api.Andp, api.Orp:
			depth--
		}
		code = append(code, x)
	}
	return code
}

func TestRunAnyPrograms(t *testing.T) {
	pick := numbers(1)
	for range 20000 {
		code := anyProgram(pick, 60)
		image := func() []bool {
			l := make([]bool, 4)
			for i := range l {
				l[i] = pick(2) == 1
			}
			return l
		}
		in, st := image(), api.State{Q: image(), M: image(), E: image()}
		mustAgree(t, code, in, st)
		mustProgress(t, code, in, st)
	}
}

// TestConcurrentRuns runs one program on one state in several goroutines.
func TestConcurrentRuns(t *testing.T) {
	code, in, st := assembled(t, "rise I0 0", "push", "st Q0", "orp", "stn M0", "end"), bits("1"), parsed("0 1 0")
	results := make([]Result, 8)
	var all sync.WaitGroup
	for i := range results {
		all.Go(func() { results[i] = Run(code, in, st) })
	}
	all.Wait()
	for _, r := range results {
		if got := outcomeOf(r); got != (outcome{"1 0 1", 6, 5, api.OK}) {
			t.Error(got)
		}
	}
}

// P6.3

// mustProgress steps a machine until it halts, and checks that the program
// counter increases with every step but the last, that there are at most as
// many steps as instructions, and that Run counts them alike.
func mustProgress(t *testing.T, code []api.Ins, in []bool, st api.State) {
	t.Helper()
	m := New(code, in, st)
	steps := 0
	for {
		before := m.At()
		ok, e := m.Step()
		if e == api.OK {
			steps++
		}
		if steps > len(code) {
			t.Fatalf("%v: more steps than instructions", code)
		}
		if !ok && m.At() != before || ok && m.At() <= before {
			t.Fatalf("%v: Step() = %v, %v leads from %d to %d", code, ok, e, before, m.At())
		}
		if !ok {
			mustRun(t, code, in, st, outcome{state.Format(m.State()), steps, m.At(), e})
			return
		}
	}
}

func TestProgressOfEachEnding(t *testing.T) {
	for _, c := range endings(t) {
		mustProgress(t, c.code, bits("1"), parsed("0 0 0"))
	}
}

// TestProgressOfJumps tries every program of four jumps to any of the targets
// -1 to 5, behind an instruction that sets the accumulator.
func TestProgressOfJumps(t *testing.T) {
	for n := range 7 * 7 * 7 * 7 {
		code := []api.Ins{{Op: api.Ldn}}
		for rest, i := n, 0; i < 4; i++ {
			code = append(code, api.Ins{Op: api.Jmpc, N: rest%7 - 1})
			rest /= 7
		}
		for _, in := range []string{"0", "1"} {
			mustProgress(t, code, bits(in), api.State{})
			mustAgree(t, code, bits(in), api.State{})
		}
	}
}

// TestLongestRuns runs programs that take exactly as many steps as they have
// instructions.
func TestLongestRuns(t *testing.T) {
	for many := 1; many <= 130; many++ {
		code := slices.Repeat([]api.Ins{{Op: api.Ld}}, many-1)
		for i := range code {
			if i%2 == 1 {
				code[i] = api.Ins{Op: api.Jmpc, N: i + 1}
			}
		}
		code = append(code, api.Ins{Op: api.End})
		for _, in := range []string{"0", "1"} {
			mustRun(t, code, bits(in), api.State{}, outcome{"- - -", many, many - 1, api.OK})
			mustProgress(t, code, bits(in), api.State{})
		}
	}
}
