package verify

import (
	"math"
	"slices"
	"testing"

	"busbar/api"
)

// P7.3

// mustHaveTargets checks the result of Targets, and that a result that is
// changed does not change the next one.
func mustHaveTargets(t *testing.T, code []api.Ins, want ...int) {
	t.Helper()
	g := guarded(code)
	for range 2 {
		l := Targets(g.code())
		if !slices.Equal(l, want) {
			t.Fatalf("Targets of %d instructions %v = %v, want %v", len(code), excerpt(code), l, want)
		}
		l = l[:cap(l)]
		for i := range l {
			l[i] = -7
		}
	}
	g.mustBeUnchanged(t)
}

// jumps returns one jmpc for each target.
func jumps(targets ...int) []api.Ins {
	var code []api.Ins
	for _, n := range targets {
		code = append(code, jump(n))
	}
	return code
}

func TestTargetsOrdinary(t *testing.T) {
	mustHaveTargets(t, assembled("ld I0, jmpc 3, st Q0, end"), 3)
	mustHaveTargets(t, assembled("ld I0, jmpc 5, st Q0, ld I1, jmpc 6, st Q1, end"), 5, 6)
	mustHaveTargets(t, assembled("ld I0, jmpc 6, st Q0, ld I1, jmpc 5, st Q1, end"), 5, 6)
	mustHaveTargets(t, assembled("jmpc 9, jmpc 3, ld I0, jmpc 9"), 3, 9)
	mustHaveTargets(t, assembled("jmpc 4, jmpc 4, jmpc 4, jmpc 4, end"), 4)
}

func TestTargetsOfNoJump(t *testing.T) {
	mustHaveTargets(t, nil)
	mustHaveTargets(t, []api.Ins{})
	mustHaveTargets(t, assembled("ld I0, rise I0 3, fall I1 4, push, andp, st Q0, end"))
}

// TestTargetsOfOtherOpcodes tells that only a jmpc has a jump target, whatever
// the number of another instruction is.
func TestTargetsOfOtherOpcodes(t *testing.T) {
	for o := range api.Ops {
		if o != api.Jmpc {
			mustHaveTargets(t, []api.Ins{{Op: o, N: 2}, jump(5), {Op: o, N: 7}, {Op: o, A: memory(3), N: 1}}, 5)
		}
	}
	for _, o := range noOpcodes {
		mustHaveTargets(t, []api.Ins{{Op: o, N: 2}, jump(5), {Op: o, N: 7}}, 5)
	}
	mustHaveTargets(t, []api.Ins{{Op: api.Jmpc, A: output(9), N: 5}, {Op: api.Jmpc, A: memory(2), N: 5}}, 5)
}

// TestTargetsInAnyOrder tries every list of up to five of the targets 0 to 3.
func TestTargetsInAnyOrder(t *testing.T) {
	for n := range 6 {
		for list := range 1 << (2 * n) {
			var targets, want []int
			for i := range n {
				targets = append(targets, list>>(2*i)&3)
			}
			for target := range 4 {
				if slices.Contains(targets, target) {
					want = append(want, target)
				}
			}
			mustHaveTargets(t, jumps(targets...), want...)
		}
	}
}

// TestTargetsOfRefusedPrograms has jumps backward, to their own index, out of
// the program, and to negative numbers.
func TestTargetsOfRefusedPrograms(t *testing.T) {
	mustHaveTargets(t, assembled("ld I0, jmpc 0, end"), 0)
	mustHaveTargets(t, assembled("ld I0, jmpc 1, end"), 1)
	mustHaveTargets(t, assembled("ld I0, jmpc 3, end"), 3)
	mustHaveTargets(t, assembled("push, jmpc 2, andp, andp"), 2)
	mustHaveTargets(t, assembled("jmpc 65535, jmpc 1000, jmpc 0"), 0, 1000, 65535)
	mustHaveTargets(t, jumps(-1, 2, -1, -300, 0, 2), -300, -1, 0, 2)
	mustHaveTargets(t, jumps(math.MaxInt, math.MinInt, 0, math.MaxInt, math.MinInt), math.MinInt, 0, math.MaxInt)
	for _, n := range noIndices {
		mustHaveTargets(t, joined(jumps(n), assembled("end")), n)
		mustHaveTargets(t, jumps(n, n), n)
	}
	all := slices.Clone(noIndices)
	slices.Sort(all)
	mustHaveTargets(t, jumps(noIndices...), all...)
}

func TestTargetsOfLongPrograms(t *testing.T) {
	for _, n := range []int{65535, 65536, 100000} {
		code := make([]api.Ins, n)
		want := make([]int, n)
		for i := range code {
			code[i] = jump(n - i)
			want[i] = i + 1
		}
		mustHaveTargets(t, code, want...)
		for i := range code {
			code[i] = jump(i % 3)
		}
		mustHaveTargets(t, code, 0, 1, 2)
	}
}

// TestValid has one program for each check that it fails; mustCheck compares
// Valid with Check on many more.
func TestValid(t *testing.T) {
	if p := program("ld I0, jmpc 3, st Q0, end"); !Valid(p) {
		t.Errorf("%v is not valid", p)
	}
	for _, p := range []api.Program{
		{},
		{Size: api.Size{Q: 257}, Code: assembled("end")},
		{Code: make([]api.Ins, 65536)},
		program("ld I9, end"),
		program("andp, end"),
		program("push, jmpc 2, end"),
		program("ld I0"),
	} {
		if Valid(p) {
			t.Errorf("%v and %v are valid", p.Size, excerpt(p.Code))
		}
	}
}

func TestTargetsSharesNothing(t *testing.T) {
	code := jumps(3, 1, 2)
	one, two := Targets(code), Targets(code)
	for i := range code {
		code[i].N = 100
		one[i] = -1
	}
	if !slices.Equal(two, []int{1, 2, 3}) {
		t.Errorf("a result of Targets became %v", two)
	}
}
