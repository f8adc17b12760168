package bytecode

import (
	"busbar/api"
	"busbar/op"
)

// magic is the magic number 66 66 49, with which every encoding starts.
const magic = "BB1"

// The numbers of bytes of the parts of an encoding.
const (
	opcodeSize = 1
	addrSize   = 2
	numberSize = 2
	numbers    = 5 // the numbers of the header: I, Q, M, E, and the number of instructions
	headerSize = len(magic) + numbers*numberSize
)

// operandSize returns the number of bytes of the operands of a form.
func operandSize(form int) int {
	size := 0
	switch form {
	case op.ReadEdge:
		size += numberSize
		fallthrough
	case op.ReadAddr, op.WriteAddr:
		size += addrSize
	case op.JumpTarget:
		size += numberSize
	}
	return size
}

func hasAddr(form int) bool {
	return form == op.ReadAddr || form == op.ReadEdge || form == op.WriteAddr
}

func hasNumber(form int) bool {
	return form == op.ReadEdge || form == op.JumpTarget
}

// encodedSize returns the length of the encoding of a valid program.
func encodedSize(code []api.Ins) int {
	size := headerSize
	for _, x := range code {
		form, _ := op.Form(x.Op)
		size += opcodeSize + operandSize(form)
	}
	return size
}

// appendHeader appends what precedes the instructions of a valid program.
func appendHeader(b []byte, s api.Size, many int) []byte {
	b = append(b, magic...)
	for _, n := range [numbers]int{s.I, s.Q, s.M, s.E, many} {
		b = appendNumber(b, n)
	}
	return b
}

// appendIns appends the encoding of an instruction of a valid program.
func appendIns(b []byte, x api.Ins) []byte {
	b = append(b, byte(x.Op))
	form, _ := op.Form(x.Op)
	if hasAddr(form) {
		b = append(b, byte(x.A.Space), byte(x.A.N))
	}
	if hasNumber(form) {
		b = appendNumber(b, x.N)
	}
	return b
}

// appendNumber appends a 16-bit number in little-endian order.
func appendNumber(b []byte, n int) []byte {
	return append(b, byte(n), byte(n>>8))
}

// number returns the 16-bit number with which bytes start.
func number(b []byte) int {
	return int(b[0]) | int(b[1])<<8
}
