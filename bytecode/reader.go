package bytecode

import (
	"bytes"

	"busbar/api"
	"busbar/op"
)

// A reader reads bytes from the front to the back.
type reader struct {
	all []byte
	at  int // the offset of the first byte that has not been read
}

// next reads n bytes. It returns false if there are not as many left.
func (r *reader) next(n int) ([]byte, bool) {
	if len(r.all)-r.at < n {
		return nil, false
	}
	b := r.all[r.at : r.at+n]
	r.at += n
	return b, true
}

// read returns the program that bytes encode, whether it is valid or not. On
// error it returns the offset of the error.
func read(b []byte) (api.Program, int, api.Errno) {
	if !bytes.HasPrefix(b, []byte(magic)) {
		return api.Program{}, 0, api.ErrForm
	}
	r := &reader{all: b, at: len(magic)}
	size, many, ok := readNumbers(r.next)
	if !ok {
		return api.Program{}, len(b), api.ErrShort
	}
	// The number of instructions may be greater than the bytes can hold.
	code := make([]api.Ins, 0, min(many, len(b)-r.at))
	for range many {
		at := r.at
		x, e := readIns(r.next)
		if e == api.ErrShort {
			at = len(b)
		}
		if e != api.OK {
			return api.Program{}, at, e
		}
		code = append(code, x)
	}
	if r.at < len(b) {
		return api.Program{}, r.at, api.ErrLong
	}
	return api.Program{Size: size, Code: code}, r.at, api.OK
}

// readNumbers reads the sizes and the number of instructions with a reading
// method.
func readNumbers(next func(n int) ([]byte, bool)) (api.Size, int, bool) {
	var all [numbers]int
	for i := range all {
		b, ok := next(numberSize)
		if !ok {
			return api.Size{}, 0, false
		}
		all[i] = number(b)
	}
	return api.Size{I: all[0], Q: all[1], M: all[2], E: all[3]}, all[4], true
}

// readIns reads an instruction with a reading method.
func readIns(next func(n int) ([]byte, bool)) (api.Ins, api.Errno) {
	b, ok := next(opcodeSize)
	if !ok {
		return api.Ins{}, api.ErrShort
	}
	x := api.Ins{Op: int(b[0])}
	form, ok := op.Form(x.Op)
	if !ok {
		return api.Ins{}, api.ErrKind
	}
	b, ok = next(operandSize(form))
	if !ok {
		return api.Ins{}, api.ErrShort
	}
	if hasAddr(form) {
		x.A = api.Addr{Space: int(b[0]), N: int(b[1])}
		b = b[addrSize:]
	}
	if hasNumber(form) {
		x.N = number(b)
	}
	return x, api.OK
}
