package verify

import (
	"slices"
	"testing"

	"busbar/api"
)

// P7.1

// mustHaveDepths checks the result of Depths, and that a result that is changed
// does not change the next one.
func mustHaveDepths(t *testing.T, code []api.Ins, want ...int) {
	t.Helper()
	g := guarded(code)
	for range 2 {
		l, at, e := Depths(g.code())
		if !slices.Equal(l, want) || at != len(code) || e != api.OK {
			t.Fatalf("Depths of %d instructions %v = %v, %d, %v, want %v", len(code), excerpt(code), l, at, e, want)
		}
		l = l[:cap(l)]
		for i := range l {
			l[i] = -1
		}
	}
	g.mustBeUnchanged(t)
}

// mustHaveNoDepths checks the error of Depths and the results beside it.
func mustHaveNoDepths(t *testing.T, code []api.Ins, wantAt int, want api.Errno) {
	t.Helper()
	g := guarded(code)
	for range 2 {
		if l, at, e := Depths(g.code()); l != nil || at != wantAt || e != want {
			t.Fatalf("Depths of %d instructions %v = %v, %d, %v, want nil, %d, %v", len(code), excerpt(code), l, at, e, wantAt, want)
		}
	}
	g.mustBeUnchanged(t)
}

// upTo returns the numbers from 0 to n-1.
func upTo(n int) []int {
	l := make([]int, n)
	for i := range l {
		l[i] = i
	}
	return l
}

func TestDepthsOrdinary(t *testing.T) {
	for _, c := range []struct {
		list string
		want []int
	}{
		{"end", []int{0}},
		{"push", []int{0}},
		{"ld I0, end", []int{0, 0}},
		{"push, push, andp, ld I0", []int{0, 1, 2, 1}},
		{"push, andp, push, orp, push", []int{0, 1, 0, 1, 0}},
		{"ld I0, push, ld I1, push, rise I0 1, orp, st Q0, andp, end", []int{0, 0, 1, 1, 2, 2, 1, 1, 0}},
		{"push, push, push, orp, orp, orp, ld I0", []int{0, 1, 2, 3, 2, 1, 0}},
	} {
		mustHaveDepths(t, assembled(c.list), c.want...)
	}
}

func TestDepthsOfNoInstructions(t *testing.T) {
	mustHaveDepths(t, nil)
	mustHaveDepths(t, []api.Ins{})
	for _, code := range [][]api.Ins{nil, {}} {
		if l, at, e := Depths(code); len(l) != 0 || at != 0 || e != api.OK {
			t.Errorf("Depths = %v, %d, %v", l, at, e)
		}
	}
}

func TestDepthsBehindEachOpcode(t *testing.T) {
	effects := map[int]int{api.Push: 1, api.Andp: -1, api.Orp: -1}
	for o := range api.Ops {
		for before := 1; before < 64; before++ {
			code := joined(many(before, api.Push), []api.Ins{{Op: o}, {Op: api.End}})
			mustHaveDepths(t, code, append(upTo(before+1), before+effects[o])...)
		}
	}
}

// TestDepthsRegardlessOfJumps tells that instructions behind an end and those
// that a jump passes count like all others.
func TestDepthsRegardlessOfJumps(t *testing.T) {
	for _, c := range []struct {
		list string
		want []int
	}{
		{"jmpc 3, push, end, ld I0", []int{0, 0, 1, 1}},
		{"push, jmpc 3, andp, push, end", []int{0, 1, 1, 0, 1}},
		{"end, push, end, push, end, andp, end", []int{0, 0, 1, 1, 2, 2, 1}},
		{"push, jmpc 0, jmpc 0, andp, jmpc 0", []int{0, 1, 1, 1, 0}},
	} {
		mustHaveDepths(t, assembled(c.list), c.want...)
	}
	mustHaveNoDepths(t, assembled("jmpc 2, andp, end"), 1, api.ErrStack)
	mustHaveNoDepths(t, assembled("end, orp"), 1, api.ErrStack)
	mustHaveNoDepths(t, joined(assembled("end"), many(65, api.Push)), 65, api.ErrDeep)
}

func TestDepthsUpToMaxDepth(t *testing.T) {
	for n := range 65 {
		mustHaveDepths(t, many(n, api.Push), upTo(n)...)
		mustHaveDepths(t, joined(many(n, api.Push), assembled("end")), upTo(n+1)...)
	}
	for _, n := range []int{65, 66, 100, 65536} {
		mustHaveNoDepths(t, many(n, api.Push), 64, api.ErrDeep)
	}
	mustHaveNoDepths(t, joined(assembled("ld I0, end, ld I0"), many(65, api.Push)), 67, api.ErrDeep)
}

// TestDepthsUpToMaxDepthBehindPops pops some values, all at last, off the full
// stack before it fills the stack again.
func TestDepthsUpToMaxDepthBehindPops(t *testing.T) {
	for pops := range 65 {
		for _, o := range []int{api.Andp, api.Orp} {
			code := joined(many(64, api.Push), many(pops, o), many(pops, api.Push))
			want := upTo(64)
			for i := range pops {
				want = append(want, 64-i)
			}
			want = append(want, upTo(64)[64-pops:]...)
			mustHaveDepths(t, code, want...)
			mustHaveDepths(t, joined(code, assembled("end")), append(want, 64)...)
			mustHaveNoDepths(t, joined(code, assembled("push, end")), 64+2*pops, api.ErrDeep)
		}
	}
}

func TestDepthsBelowZero(t *testing.T) {
	for _, o := range []int{api.Andp, api.Orp} {
		x := api.Ins{Op: o}
		mustHaveNoDepths(t, []api.Ins{x}, 0, api.ErrStack)
		mustHaveNoDepths(t, []api.Ins{x, {Op: api.Push}, {Op: api.End}}, 0, api.ErrStack)
		mustHaveNoDepths(t, joined(assembled("ld I0, st Q0"), []api.Ins{x}), 2, api.ErrStack)
		for n := range 65 {
			code := joined(many(n, api.Push), many(n, api.Andp), []api.Ins{x}, assembled("push, push, end"))
			mustHaveNoDepths(t, code, 2*n, api.ErrStack)
		}
	}
}

func TestDepthsFirstError(t *testing.T) {
	mustHaveNoDepths(t, assembled("push, andp, andp, push, orp, orp"), 2, api.ErrStack)
	mustHaveNoDepths(t, joined(assembled("orp"), many(70, api.Push)), 0, api.ErrStack)
	mustHaveNoDepths(t, joined(many(66, api.Push), many(80, api.Andp)), 64, api.ErrDeep)
	mustHaveNoDepths(t, joined(many(64, api.Push), many(64, api.Orp), assembled("andp"), many(65, api.Push)), 128, api.ErrStack)
}

func TestDepthsOfUnknownOpcodes(t *testing.T) {
	for _, o := range noOpcodes {
		x := api.Ins{Op: o}
		mustHaveDepths(t, []api.Ins{x}, 0)
		mustHaveDepths(t, []api.Ins{x, {Op: api.Push}, x, {Op: api.Push}, x, {Op: api.Orp}, x}, 0, 0, 1, 1, 2, 2, 1)
		mustHaveDepths(t, joined(many(64, api.Push), []api.Ins{x, x}), append(upTo(65), 64)...)
		mustHaveNoDepths(t, []api.Ins{x, {Op: api.Andp}}, 1, api.ErrStack)
	}
}

// TestDepthsOfInvalidOperands gives every instruction operands that no
// instruction can have.
func TestDepthsOfInvalidOperands(t *testing.T) {
	for _, n := range noIndices {
		a := api.Addr{Space: n, N: n}
		var code []api.Ins
		for _, o := range []int{api.Ld, api.Push, api.Jmpc, api.Push, api.Rise, api.Orp, api.Set, api.Jmpc, api.Andp, api.End, 17} {
			code = append(code, api.Ins{Op: o, A: a, N: n})
		}
		mustHaveDepths(t, code, 0, 0, 1, 1, 2, 2, 1, 1, 1, 0, 0)
		mustHaveNoDepths(t, append(code, api.Ins{Op: api.Orp, A: a, N: n}), 11, api.ErrStack)
	}
}

func TestDepthsOfLongPrograms(t *testing.T) {
	for _, n := range []int{65534, 65535, 65536, 65537, 200000} {
		code := make([]api.Ins, n)
		want := make([]int, n)
		mustHaveDepths(t, code, want...)
		code[n-2].Op = api.Push
		want[n-1] = 1
		mustHaveDepths(t, code, want...)
		mustHaveDepths(t, append(code, api.Ins{Op: api.Orp}, api.Ins{Op: api.End}), append(want, 1, 0)...)
		mustHaveNoDepths(t, append(code, api.Ins{Op: api.Orp}, api.Ins{Op: api.Orp}), n+1, api.ErrStack)
		mustHaveNoDepths(t, append(code, many(64, api.Push)...), n+63, api.ErrDeep)
	}
}

func TestDepthsSharesNothing(t *testing.T) {
	code := assembled("push, push, orp, end")
	one, _, _ := Depths(code)
	two, _, _ := Depths(code)
	for i := range code {
		code[i] = api.Ins{Op: api.Andp}
		one[i] = -1
	}
	if want := []int{0, 1, 2, 1}; !slices.Equal(two, want) {
		t.Errorf("a result of Depths became %v", two)
	}
}
