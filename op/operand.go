package op

import (
	"strconv"

	"busbar/addr"
	"busbar/api"
)

const (
	// maxWords is the number of words of the longest assembly text: a
	// mnemonic, an address and a number.
	maxWords = 3
	// maxNumber is the greatest number that an assembly text can have.
	maxNumber = 65535
)

// place tells where an instruction stands: the sizes of its program, its
// index, and the number of instructions.
type place struct {
	size     api.Size
	at, many int
}

// operand describes one operand of an instruction.
type operand struct {
	// clear sets the operand to its zero value.
	clear func(x *api.Ins)
	// check validates the operand of an instruction at a place.
	check func(x api.Ins, p place) api.Errno
	// format returns the text of the operand, or an empty string if it has none.
	format func(x api.Ins) string
	// parse sets the operand to the value with the given text. It returns
	// false if there is none.
	parse func(x *api.Ins, word string) bool
}

// operandsOf returns the operands of a form, in the order of the assembly text.
func operandsOf(form int) []operand {
	switch form {
	case ReadAddr:
		return []operand{address(checkRead)}
	case ReadEdge:
		return []operand{address(checkRead), number(checkSlot)}
	case WriteAddr:
		return []operand{address(checkWrite)}
	case JumpTarget:
		return []operand{number(checkTarget)}
	}
	return nil
}

// hasOnly reports whether all other operands of an instruction are zero.
func hasOnly(x api.Ins, operands []operand) bool {
	for _, o := range operands {
		o.clear(&x)
	}
	return x == api.Ins{Op: x.Op}
}

// address returns the description of an address with the given check.
func address(check func(api.Ins, place) api.Errno) operand {
	return operand{
		clear:  func(x *api.Ins) { x.A = api.Addr{} },
		check:  check,
		format: func(x api.Ins) string { return addr.Format(x.A) },
		parse: func(x *api.Ins, word string) bool {
			a, e := addr.Parse(word)
			x.A = a
			return e == api.OK
		},
	}
}

// number returns the description of a number with the given check.
func number(check func(api.Ins, place) api.Errno) operand {
	return operand{
		clear:  func(x *api.Ins) { x.N = 0 },
		check:  check,
		format: func(x api.Ins) string { return formatNumber(x.N) },
		parse: func(x *api.Ins, word string) bool {
			n, ok := parseNumber(word)
			x.N = n
			return ok
		},
	}
}

// checkRead validates an address that is read.
func checkRead(x api.Ins, p place) api.Errno { return addr.CheckAddr(p.size, x.A) }

// checkWrite validates an address that is written.
func checkWrite(x api.Ins, p place) api.Errno {
	if e := addr.CheckAddr(p.size, x.A); e != api.OK {
		return e
	}
	if x.A.Space == api.Input {
		return api.ErrKind
	}
	return api.OK
}

// checkSlot validates an edge-history slot.
func checkSlot(x api.Ins, p place) api.Errno {
	if x.N < 0 || x.N >= p.size.E {
		return api.ErrRange
	}
	return api.OK
}

// checkTarget validates a jump target.
func checkTarget(x api.Ins, p place) api.Errno {
	if x.N < 0 || x.N >= p.many {
		return api.ErrRange
	}
	if x.N <= p.at {
		return api.ErrOrder
	}
	return api.OK
}

// formatNumber returns the text of a number, or an empty string if it has none.
func formatNumber(n int) string {
	if n < 0 || n > maxNumber {
		return ""
	}
	return strconv.Itoa(n)
}

// parseNumber returns the number with the given text.
func parseNumber(t string) (int, bool) {
	n, err := strconv.Atoi(t)
	// Atoi also reads signs and leading zeros, which the text may not have.
	if err != nil || formatNumber(n) != t {
		return 0, false
	}
	return n, true
}
