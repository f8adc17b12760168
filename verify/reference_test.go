package verify

import (
	"cmp"
	"slices"
	"testing"

	"busbar/addr"
	"busbar/api"
	"busbar/op"
)

// objection is one way in which a program fails one of the six checks.
type objection struct {
	check, at int
	e         api.Errno
}

// objections returns all objections to a program but those that make no sense
// beside an earlier one.
func objections(p api.Program) []objection {
	var l []objection
	n := len(p.Code)
	add := func(objects bool, check, at int, e api.Errno) {
		if objects {
			l = append(l, objection{check, at, e})
		}
	}
	sizes := addr.CheckSize(p.Size)
	add(sizes != api.OK, 1, 0, sizes)
	add(n == 0, 2, 0, api.ErrNone)
	add(n > 65535, 2, 0, api.ErrLong)
	for i, x := range p.Code {
		e := op.Check(p.Size, x, i, n)
		add(e != api.OK, 3, i, e)
		pops := x.Op == api.Andp || x.Op == api.Orp
		add(pops && balance(p.Code[:i]) == 0, 4, i, api.ErrStack)
		add(x.Op == api.Push && balance(p.Code[:i]) == 64, 4, i, api.ErrDeep)
		if x.Op == api.Jmpc && x.N >= 0 && x.N < n {
			add(balance(p.Code[:i]) != 0 || balance(p.Code[:x.N]) != 0, 5, i, api.ErrState)
		}
	}
	add(n > 0 && p.Code[max(0, n-1)].Op != api.End, 6, n, api.ErrShort)
	return l
}

// balance returns the number of pushes less the number of pops.
func balance(code []api.Ins) int {
	n := 0
	for _, x := range code {
		switch x.Op {
		case api.Push:
			n++
		case api.Andp, api.Orp:
			n--
		}
	}
	return n
}

// reference verifies a program by all that can be said against it.
func reference(p api.Program) verdict {
	l := objections(p)
	if len(l) > 0 {
		first := slices.MinFunc(l, func(a, b objection) int {
			return cmp.Or(cmp.Compare(a.check, b.check), cmp.Compare(a.at, b.at))
		})
		return verdict{0, first.at, first.e}
	}
	depth := 0
	for i := range p.Code {
		depth = max(depth, balance(p.Code[:i]))
	}
	return verdict{depth, len(p.Code), api.OK}
}

// eachProgram calls f for every program of at most n instructions of an
// alphabet. The program is only valid during the call.
func eachProgram(alphabet []api.Ins, n int, f func([]api.Ins)) {
	var code []api.Ins
	var extend func(more int)
	extend = func(more int) {
		f(code)
		if more == 0 {
			return
		}
		for _, x := range alphabet {
			code = append(code, x)
			extend(more - 1)
			code = code[:len(code)-1]
		}
	}
	extend(n)
}

func TestCheckShortPrograms(t *testing.T) {
	alphabet := assembled("ld I0, ld I1, push, orp, jmpc 1, jmpc 2, jmpc 3, end")
	verdicts := map[verdict]int{}
	eachProgram(alphabet, 5, func(code []api.Ins) {
		p := api.Program{Size: api.Size{I: 1}, Code: code}
		want := reference(p)
		mustCheck(t, p, want)
		verdicts[want]++
	})
	// A valid program of 5 instructions can be no deeper than 4.
	for depth := range 5 {
		if verdicts[verdict{depth, 5, api.OK}] == 0 {
			t.Errorf("no program of depth %d was tried", depth)
		}
	}
}

// anyProgram returns a program of less than most instructions that is often
// valid: what would fail is mostly replaced.
func anyProgram(pick func(int) int, s api.Size, most int) api.Program {
	var code []api.Ins
	depth := 0
	n := 1 + pick(most)
	for at := range n {
		x := api.Ins{Op: pick(api.Ops)}
		if pick(3) == 0 {
			x.Op = api.Push + pick(3)
		}
		if pick(4*most) > 0 {
			x = repaired(pick, s, x, depth, at, n)
		} else if pick(2) == 0 {
			x = spoiled(pick, x, n)
		}
		depth = balance(append(code, x))
		code = append(code, x)
	}
	if pick(20) > 0 {
		code = append(code, api.Ins{Op: api.End})
	}
	return api.Program{Size: s, Code: code}
}

// repaired returns an instruction that does not fail at a depth and an index of
// a program of more than n instructions, unless it is a jmpc to another depth
// than 0.
func repaired(pick func(int) int, s api.Size, x api.Ins, depth, at, n int) api.Ins {
	form, _ := op.Form(x.Op)
	switch {
	case x.Op == api.End, depth == 0 && (x.Op == api.Andp || x.Op == api.Orp), depth > 0 && form == op.JumpTarget:
		x.Op = api.Push
	case form == op.JumpTarget:
		x.N = at + 1 + pick(n-at)
	case form == op.WriteAddr:
		x.A = output(pick(s.Q))
	case form == op.ReadEdge:
		x.A, x.N = memory(pick(s.M)), pick(s.E)
	case form == op.ReadAddr:
		x.A = input(pick(s.I))
	}
	return x
}

// spoiled returns an instruction that often fails wherever it stands.
func spoiled(pick func(int) int, x api.Ins, n int) api.Ins {
	form, _ := op.Form(x.Op)
	switch {
	case pick(8) == 0:
		x.N = 1 + pick(9)
	case form == op.JumpTarget:
		x.N = pick(n+3) - 1
	case form != op.NoOperand:
		x.A = api.Addr{Space: pick(4), N: pick(6)}
	}
	return x
}

func TestCheckAnyPrograms(t *testing.T) {
	pick := numbers(1)
	verdicts := map[api.Errno]int{}
	for i := range 20000 {
		p := anyProgram(pick, small, 2+i%60)
		want := reference(p)
		mustCheck(t, p, want)
		verdicts[want.e]++
	}
	for _, e := range []api.Errno{api.OK, api.ErrArg, api.ErrRange, api.ErrShort, api.ErrKind, api.ErrState, api.ErrOrder, api.ErrStack} {
		if verdicts[e] < 50 {
			t.Errorf("only %d programs with %v were tried", verdicts[e], e)
		}
	}
}
