package verify

import (
	"math"
	"slices"
	"testing"

	"busbar/api"
	"busbar/state"
	"busbar/vm"
)

// P7.4

// mustRun steps a valid program through to its end, and checks that the stack
// has its static depth before every instruction.
func mustRun(t *testing.T, p api.Program, in []bool, st api.State) {
	t.Helper()
	greatest, _, _ := Check(p)
	depths, _, _ := Depths(p.Code)
	m := vm.New(p.Code, in, st)
	for {
		if depth := m.Depth(); depth > greatest || depth != depths[m.At()] {
			t.Fatalf("%v on %v and %v: depth %d at %d, but Check reports %d and Depths %v", p, in, st, depth, m.At(), greatest, depths)
		}
		running, fault := m.Step()
		if fault != api.OK {
			t.Fatalf("%v on %v and %v faults at %d: %v", p, in, st, m.At(), fault)
		}
		if !running {
			break
		}
	}
	if p.Code[m.At()].Op != api.End {
		t.Fatalf("%v on %v and %v halts at %d", p, in, st, m.At())
	}
	if depth := m.Depth(); depth > greatest {
		t.Fatalf("%v on %v and %v ends with depth %d, but Check reports %d", p, in, st, depth, greatest)
	}
	if r := vm.Run(p.Code, in, st); r.Fault != api.OK || r.At != m.At() || !state.Fits(p.Size, r.State) {
		t.Fatalf("%v on %v and %v ends with %v", p, in, st, r)
	}
}

// mustRunEverywhere runs a program on every input image and state of its sizes.
func mustRunEverywhere(t *testing.T, p api.Program) {
	t.Helper()
	s := p.Size
	for n := range 1 << (s.I + s.Q + s.M + s.E) {
		next := func(width int) []bool {
			l := make([]bool, width)
			for i := range l {
				l[i] = n&1 == 1
				n >>= 1
			}
			return l
		}
		mustRun(t, p, next(s.I), api.State{Q: next(s.Q), M: next(s.M), E: next(s.E)})
	}
}

func TestValidProgramsRun(t *testing.T) {
	for _, list := range []string{
		"end",
		"ld I0, st Q0, end",
		"ld I0, end, push, push, end",
		"ld I0, jmpc 5, push, ld I1, orp, jmpc 7, st Q0, end",
		"rise I0 0, push, fall Q0 1, push, ldn M0, orp, andp, st Q1, set M1, rst Q0, end",
		"ld I0, jmpc 3, end, ld I1, jmpc 6, end, push, st M0, end",
		"jmpc 1, push, push, push, push, end",
	} {
		p := api.Program{Size: api.Size{I: 2, Q: 2, M: 2, E: 2}, Code: assembled(list)}
		if !Valid(p) {
			t.Fatalf("%s is not valid", list)
		}
		mustRunEverywhere(t, p)
	}
}

// TestValidShortProgramsRun runs every valid program of up to five instructions
// of an alphabet.
func TestValidShortProgramsRun(t *testing.T) {
	alphabet := assembled("ld I0, orn Q0, rise I0 0, st Q0, push, andp, jmpc 1, jmpc 2, jmpc 3, jmpc 4, end")
	runs := 0
	eachProgram(alphabet, 5, func(code []api.Ins) {
		p := api.Program{Size: api.Size{I: 1, Q: 1, E: 1}, Code: code}
		if Valid(p) {
			mustRunEverywhere(t, p)
			runs++
		}
	})
	if runs < 1000 {
		t.Errorf("only %d programs were valid", runs)
	}
}

func TestValidAnyProgramsRun(t *testing.T) {
	pick := numbers(2)
	runs, withJumps := 0, 0
	for i := range 3000 {
		p := anyProgram(pick, api.Size{I: 2, Q: 1, M: 1, E: 1}, 2+i%40)
		if !Valid(p) {
			continue
		}
		mustRunEverywhere(t, p)
		runs++
		if len(Targets(p.Code)) > 0 {
			withJumps++
		}
	}
	if runs < 500 || withJumps < 100 {
		t.Errorf("only %d programs were valid, %d of them with jumps", runs, withJumps)
	}
}

// TestValidProgramsRunAtTheLimits has the greatest sizes, the deepest stack and
// the greatest number of instructions.
func TestValidProgramsRunAtTheLimits(t *testing.T) {
	full := api.Size{I: 256, Q: 256, M: 256, E: 16384}
	edge := assembled("ld I255, orn Q255, and M255, rise I255 16383, fall Q255 16383, st Q255, stn M255, set Q0, rst M255")
	up, down := many(64, api.Push), many(64, api.Andp)
	code := joined(edge, assembled("jmpc 65534"), up, edge, down, up, down)
	code = joined(code, many(65533-len(code), api.Ld), assembled("jmpc 65534, end"))
	p := api.Program{Size: full, Code: code}
	mustPass(t, p, 64)
	for _, v := range []bool{false, true} {
		st, _ := state.New(full)
		in := make([]bool, full.I)
		for _, l := range [][]bool{in, st.Q, st.M, st.E} {
			for i := range l {
				l[i] = v
			}
		}
		mustRun(t, p, in, st)
	}
}

// TestFaultingProgramsAreInvalid has programs that fault in the machine, one
// for each fault.
func TestFaultingProgramsAreInvalid(t *testing.T) {
	end := api.Ins{Op: api.End}
	for _, code := range [][]api.Ins{
		nil,
		{{Op: 17}, end},
		{{Op: math.MinInt}, end},
		{{Op: api.Ld, A: input(2)}, end},
		{{Op: api.Ld, A: api.Addr{Space: 3}}, end},
		{{Op: api.Set, A: input(0)}, end},
		{{Op: api.St, A: memory(4)}, end},
		{{Op: api.Rise, N: 5}, end},
		{{Op: api.Fall, N: math.MaxInt}, end},
		append(many(65, api.Push), end),
		{{Op: api.Andp}, end},
		{{Op: api.Push}, {Op: api.Orp}, {Op: api.Orp}, end},
		{jump(2), end},
		{jump(-1), end},
		{jump(0), end},
		{{Op: api.Ld}, jump(1), end},
		{{Op: api.Ldn}, jump(3), {Op: api.Push}, {Op: api.Andp}, end},
		{{Op: api.Ld}},
	} {
		st, _ := state.New(small)
		if r := vm.Run(code, make([]bool, small.I), st); r.Fault == api.OK {
			t.Fatalf("%v does not fault", code)
		}
		if p := (api.Program{Size: small, Code: slices.Clone(code)}); Valid(p) {
			t.Errorf("%v faults, but is valid", code)
		}
	}
}
