package vm

import (
	"busbar/api"
	"busbar/image"
	"busbar/state"
)

// dispatch returns the method of each opcode. A method that returns an error
// has left the machine as it was.
func (m *Machine) dispatch() map[int]func(api.Ins) api.Errno {
	return map[int]func(api.Ins) api.Errno{
		api.Ld:   m.load,
		api.Ldn:  m.loadNegated,
		api.And:  m.and,
		api.Andn: m.andNegated,
		api.Or:   m.or,
		api.Orn:  m.orNegated,
		api.Rise: m.rise,
		api.Fall: m.fall,
		api.Push: m.push,
		api.Andp: m.andPopped,
		api.Orp:  m.orPopped,
		api.St:   m.store,
		api.Stn:  m.storeNegated,
		api.Set:  m.set,
		api.Rst:  m.reset,
		api.Jmpc: m.jump,
		api.End:  m.end,
	}
}

func (m *Machine) load(x api.Ins) api.Errno {
	bit, e := m.read(x.A)
	return m.setAcc(bit, e)
}

func (m *Machine) loadNegated(x api.Ins) api.Errno {
	bit, e := m.read(x.A)
	return m.setAcc(!bit, e)
}

func (m *Machine) and(x api.Ins) api.Errno {
	bit, e := m.read(x.A)
	return m.setAcc(m.acc && bit, e)
}

func (m *Machine) andNegated(x api.Ins) api.Errno {
	bit, e := m.read(x.A)
	return m.setAcc(m.acc && !bit, e)
}

func (m *Machine) or(x api.Ins) api.Errno {
	bit, e := m.read(x.A)
	return m.setAcc(m.acc || bit, e)
}

func (m *Machine) orNegated(x api.Ins) api.Errno {
	bit, e := m.read(x.A)
	return m.setAcc(m.acc || !bit, e)
}

func (m *Machine) rise(x api.Ins) api.Errno {
	bit, before, e := m.sample(x)
	return m.setAcc(bit && !before, e)
}

func (m *Machine) fall(x api.Ins) api.Errno {
	bit, before, e := m.sample(x)
	return m.setAcc(!bit && before, e)
}

func (m *Machine) push(api.Ins) api.Errno { return m.branches.Push(m.acc) }

func (m *Machine) andPopped(api.Ins) api.Errno {
	v, e := m.branches.Pop()
	return m.setAcc(v && m.acc, e)
}

func (m *Machine) orPopped(api.Ins) api.Errno {
	v, e := m.branches.Pop()
	return m.setAcc(v || m.acc, e)
}

func (m *Machine) store(x api.Ins) api.Errno { return m.write(x.A, m.acc, true) }

func (m *Machine) storeNegated(x api.Ins) api.Errno { return m.write(x.A, !m.acc, true) }

func (m *Machine) set(x api.Ins) api.Errno { return m.write(x.A, true, m.acc) }

func (m *Machine) reset(x api.Ins) api.Errno { return m.write(x.A, false, m.acc) }

func (m *Machine) jump(x api.Ins) api.Errno {
	if x.N < 0 || x.N >= len(m.code) {
		return api.ErrRange
	}
	if x.N <= m.at {
		return api.ErrOrder
	}
	if m.acc {
		m.next = x.N
	}
	return api.OK
}

func (m *Machine) end(api.Ins) api.Errno {
	m.next = m.at
	m.halted = true
	return api.OK
}

// setAcc sets the accumulator to v, unless v was computed beside an error.
func (m *Machine) setAcc(v bool, e api.Errno) api.Errno {
	if e == api.OK {
		m.acc = v
	}
	return e
}

func (m *Machine) read(a api.Addr) (bool, api.Errno) { return state.Read(m.in, m.st, a) }

// write sets the bit at an address to v if enabled. The address is validated
// in any case.
func (m *Machine) write(a api.Addr, v, enabled bool) api.Errno {
	// No address reaches the edge history, which may be long; without it there
	// is less to copy.
	st, e := state.Write(api.State{Q: m.st.Q, M: m.st.M}, a, v)
	if e == api.OK && enabled {
		m.st.Q, m.st.M = st.Q, st.M
	}
	return e
}

// sample returns the bit at the address of an instruction and the bit that its
// slot held before, and stores the former in the slot.
func (m *Machine) sample(x api.Ins) (bit, before bool, e api.Errno) {
	bit, e = m.read(x.A)
	if e != api.OK {
		return false, false, e
	}
	before, e = image.Get(m.st.E, x.N)
	if e != api.OK {
		return false, false, e
	}
	// The machine's state is its own copy, so that the slot can be changed in
	// place.
	m.st.E[x.N] = bit
	return bit, before, api.OK
}
