package bytecode

import (
	"math"
	"slices"
	"testing"

	"busbar/api"
)

// P8.1

// mustEqual checks the result of Equal on two programs in both orders, and that
// nothing is changed.
func mustEqual(t *testing.T, a, b api.Program, want bool) {
	t.Helper()
	g, h := guarded(a.Code, assembled("end")), guarded(b.Code, assembled("push, end"))
	a.Code, b.Code = g.list, h.list
	if Equal(a, b) != want || Equal(b, a) != want {
		t.Fatalf("Equal of %v and %d instructions %v with %v and %d instructions %v is not %v", a.Size, len(a.Code), excerpt(a.Code), b.Size, len(b.Code), excerpt(b.Code), want)
	}
	if !Equal(a, a) || !Equal(b, b) {
		t.Fatalf("%v or %v is not equal to itself", excerpt(a.Code), excerpt(b.Code))
	}
	g.mustBeUnchanged(t)
	h.mustBeUnchanged(t)
}

// copied returns a program in other memory.
func copied(p api.Program) api.Program {
	return api.Program{Size: p.Size, Code: slices.Clone(p.Code)}
}

// others returns ints that differ from n; some have the same lower bits.
func others(n int) []int {
	l := []int{n + 1, n - 1, n + 1<<8, n + 1<<16, n + 1<<32, ^n, n ^ math.MinInt, math.MinInt, math.MaxInt}
	return slices.DeleteFunc(l, func(m int) bool { return m == n })
}

// variants returns programs that differ from p in one size or in one part of
// one instruction.
func variants(p api.Program) []api.Program {
	var l []api.Program
	q := copied(p)
	for _, part := range []*int{&q.Size.I, &q.Size.Q, &q.Size.M, &q.Size.E} {
		old := *part
		for _, n := range others(old) {
			*part = n
			l = append(l, copied(q))
		}
		*part = old
	}
	for i := range q.Code {
		x := &q.Code[i]
		for _, part := range []*int{&x.Op, &x.A.Space, &x.A.N, &x.N} {
			old := *part
			for _, n := range others(old) {
				*part = n
				l = append(l, copied(q))
			}
			*part = old
		}
	}
	return l
}

// equalBases are valid and invalid programs.
func equalBases() []api.Program {
	return []api.Program{
		program("end"),
		program("ld I1, and M2, st Q0, end"),
		program("ld I0, jmpc 4, rise M1 3, fall Q2 4, push, andp, end"),
		{},
		{Size: small},
		{Size: api.Size{I: math.MinInt, Q: math.MaxInt, M: -1, E: 65536}},
		program("ld I7, orp, jmpc 0"),
		{Size: api.Size{I: -1}, Code: []api.Ins{{Op: 17, A: api.Addr{Space: 3, N: -1}, N: math.MinInt}, {Op: math.MaxInt, A: api.Addr{Space: math.MinInt, N: math.MaxInt}, N: 1 << 32}}},
		{Size: full, Code: []api.Ins{{Op: api.Push, A: input(1), N: 2}, {Op: api.End, A: memory(3), N: 4}}},
	}
}

func TestEqualParts(t *testing.T) {
	for _, p := range equalBases() {
		mustEqual(t, p, copied(p), true)
		for _, q := range variants(p) {
			mustEqual(t, p, q, false)
			mustEqual(t, q, copied(q), true)
		}
	}
}

func TestEqualDifferentPrograms(t *testing.T) {
	l := equalBases()
	for i, p := range l {
		for j, q := range l {
			mustEqual(t, p, q, i == j)
		}
	}
}

// TestEqualExchangedParts has programs with the same numbers at other places.
func TestEqualExchangedParts(t *testing.T) {
	end := assembled("end")
	sizes := []api.Size{{I: 1}, {Q: 1}, {M: 1}, {E: 1}, {I: 1, Q: 1}, {I: 2, Q: 1}, {I: 1, Q: 2}, {I: 1, M: 2}, {I: 1, E: 2}, {}}
	for i, s := range sizes {
		for j, r := range sizes {
			mustEqual(t, api.Program{Size: s, Code: end}, api.Program{Size: r, Code: end}, i == j)
		}
	}
	codes := [][]api.Ins{
		assembled("ld I0, ld I1, end"), assembled("ld I1, ld I0, end"), assembled("end, ld I0, ld I1"),
		{{Op: api.Ld, A: api.Addr{Space: 1}}}, {{Op: api.Ld, A: api.Addr{N: 1}}}, {{Op: api.Ld, N: 1}}, {{Op: api.Ldn}},
	}
	for i, c := range codes {
		for j, d := range codes {
			mustEqual(t, api.Program{Size: small, Code: c}, api.Program{Size: small, Code: d}, i == j)
		}
	}
}

// TestEqualNumbersOfInstructions has programs of which one is the start of the
// other.
func TestEqualNumbersOfInstructions(t *testing.T) {
	for _, code := range [][]api.Ins{assembled("ld I0, st Q0, end, end"), make([]api.Ins, 5), many(4, api.Ins{Op: 99})} {
		for i := range len(code) + 1 {
			for j := range len(code) + 1 {
				mustEqual(t, api.Program{Size: small, Code: code[:i]}, api.Program{Size: small, Code: code[:j]}, i == j)
			}
		}
	}
}

func TestEqualNoInstructions(t *testing.T) {
	lists := [][]api.Ins{nil, {}, make([]api.Ins, 0, 5), assembled("ld I0, end")[:0]}
	for _, a := range lists {
		for _, b := range lists {
			if !Equal(api.Program{Code: a}, api.Program{Code: b}) || !Equal(api.Program{Size: small, Code: a}, api.Program{Size: small, Code: b}) {
				t.Error("programs without instructions are not equal")
			}
			if Equal(api.Program{Size: small, Code: a}, api.Program{Code: b}) {
				t.Error("programs without instructions, but of different sizes, are equal")
			}
		}
		mustEqual(t, api.Program{Size: small, Code: a}, program("end"), false)
		mustEqual(t, api.Program{Code: a}, api.Program{Code: make([]api.Ins, 1)}, false)
	}
}

func TestEqualLongPrograms(t *testing.T) {
	for _, n := range []int{65535, 65536, 100000} {
		p := api.Program{Size: full, Code: many(n, api.Ins{Op: api.End})}
		mustEqual(t, p, copied(p), true)
		mustEqual(t, p, api.Program{Size: full, Code: replaced(p.Code, n-1, api.Ins{})}, false)
		mustEqual(t, p, api.Program{Size: full, Code: p.Code[1:]}, false)
	}
}
