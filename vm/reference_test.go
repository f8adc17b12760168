package vm

import (
	"slices"

	"busbar/api"
	"busbar/state"
)

// reference executes a program without the machine and the layers below it: it
// decides first whether an instruction faults, and only then what it does.
func reference(code []api.Ins, in []bool, st api.State) outcome {
	r := referee{code: code, in: in, st: state.Clone(st)}
	for steps := 0; ; steps++ {
		if e := r.faults(); e != api.OK {
			return outcome{state.Format(r.st), steps, r.at, e}
		}
		x := code[r.at]
		if x.Op == api.End {
			return outcome{state.Format(r.st), steps + 1, r.at, api.OK}
		}
		jumps := x.Op == api.Jmpc && r.acc
		r.load(x)
		r.join(x)
		r.store(x)
		r.at++
		if jumps {
			r.at = x.N
		}
	}
}

// referee is the execution of a program by reference.
type referee struct {
	code   []api.Ins
	in     []bool
	st     api.State
	at     int
	acc    bool
	pushed []bool
}

// image returns the image of an address space.
func (r *referee) image(space int) ([]bool, bool) {
	switch space {
	case api.Input:
		return r.in, true
	case api.Output:
		return r.st.Q, true
	case api.Memory:
		return r.st.M, true
	}
	return nil, false
}

// faults returns the fault of the instruction at the program counter.
func (r *referee) faults() api.Errno {
	if r.at >= len(r.code) {
		return api.ErrShort
	}
	x := r.code[r.at]
	l, isSpace := r.image(x.A.Space)
	writes := slices.Contains(stores, x.Op)
	addresses := writes || slices.Contains(readers, x.Op)
	switch {
	case x.Op < 0 || x.Op > 16:
		return api.ErrKind
	case addresses && (!isSpace || writes && x.A.Space == api.Input):
		return api.ErrKind
	case addresses && (x.A.N < 0 || x.A.N >= len(l)):
		return api.ErrRange
	case slices.Contains(edges, x.Op) && (x.N < 0 || x.N >= len(r.st.E)):
		return api.ErrRange
	case x.Op == api.Push && len(r.pushed) == 64:
		return api.ErrFull
	case slices.Contains(joins, x.Op) && len(r.pushed) == 0:
		return api.ErrStack
	case x.Op == api.Jmpc && (x.N < 0 || x.N >= len(r.code)):
		return api.ErrRange
	case x.Op == api.Jmpc && x.N <= r.at:
		return api.ErrOrder
	}
	return api.OK
}

// load executes an instruction that reads a bit.
func (r *referee) load(x api.Ins) {
	if !slices.Contains(readers, x.Op) {
		return
	}
	l, _ := r.image(x.A.Space)
	bit := l[x.A.N]
	switch x.Op {
	case api.Ld:
		r.acc = bit
	case api.Ldn:
		r.acc = !bit
	case api.And:
		r.acc = r.acc && bit
	case api.Andn:
		r.acc = r.acc && !bit
	case api.Or:
		r.acc = r.acc || bit
	case api.Orn:
		r.acc = r.acc || !bit
	case api.Rise:
		r.acc = bit && !r.st.E[x.N]
		r.st.E[x.N] = bit
	case api.Fall:
		r.acc = !bit && r.st.E[x.N]
		r.st.E[x.N] = bit
	}
}

// join executes an instruction that uses the stack.
func (r *referee) join(x api.Ins) {
	top := len(r.pushed) - 1
	switch x.Op {
	case api.Push:
		r.pushed = append(r.pushed, r.acc)
	case api.Andp:
		r.acc = r.acc && r.pushed[top]
		r.pushed = r.pushed[:top]
	case api.Orp:
		r.acc = r.acc || r.pushed[top]
		r.pushed = r.pushed[:top]
	}
}

// store executes an instruction that writes a bit.
func (r *referee) store(x api.Ins) {
	if !slices.Contains(stores, x.Op) {
		return
	}
	l, _ := r.image(x.A.Space)
	switch x.Op {
	case api.St:
		l[x.A.N] = r.acc
	case api.Stn:
		l[x.A.N] = !r.acc
	case api.Set:
		l[x.A.N] = l[x.A.N] || r.acc
	case api.Rst:
		l[x.A.N] = l[x.A.N] && !r.acc
	}
}
