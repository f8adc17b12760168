package bytecode

import (
	"strings"
	"testing"

	"busbar/api"
	"busbar/op"
	"busbar/verify"
)

// layouts holds for each opcode the bytes of an instruction: the opcode o, the
// address space s, the bit number b, and the lower and the upper byte l and h of
// the number.
var layouts = strings.Fields("osb osb osb osb osb osb osblh osblh o o o osb osb osb osb olh o")

// referenceBytes returns the encoding of a valid program.
func referenceBytes(p api.Program) []byte {
	b := header(p.Size, len(p.Code))
	for _, x := range p.Code {
		for _, c := range layouts[x.Op] {
			switch c {
			case 'o':
				b = append(b, byte(x.Op))
			case 's':
				b = append(b, byte(x.A.Space))
			case 'b':
				b = append(b, byte(x.A.N))
			case 'l':
				b = append(b, byte(x.N%256))
			case 'h':
				b = append(b, byte(x.N/256))
			}
		}
	}
	return b
}

// referenceIns returns the instruction of the bytes of a layout.
func referenceIns(layout, b string) api.Ins {
	var x api.Ins
	for i, c := range layout {
		n := int(b[i])
		switch c {
		case 'o':
			x.Op = n
		case 's':
			x.A.Space = n
		case 'b':
			x.A.N = n
		case 'l':
			x.N += n
		case 'h':
			x.N += n * 256
		}
	}
	return x
}

// reference decodes bytes without a view to how Decode does it.
func reference(s string) (api.Program, int, api.Errno) {
	rest, ok := strings.CutPrefix(s, "BB1")
	if !ok {
		return api.Program{}, 0, api.ErrForm
	}
	if len(rest) < 10 {
		return api.Program{}, len(s), api.ErrShort
	}
	n := func(i int) int { return int(rest[2*i]) + int(rest[2*i+1])*256 }
	p := api.Program{Size: api.Size{I: n(0), Q: n(1), M: n(2), E: n(3)}}
	count := n(4)
	rest = rest[10:]
	for len(p.Code) < count {
		if rest == "" {
			return api.Program{}, len(s), api.ErrShort
		}
		if int(rest[0]) >= len(layouts) {
			return api.Program{}, len(s) - len(rest), api.ErrKind
		}
		layout := layouts[rest[0]]
		if len(rest) < len(layout) {
			return api.Program{}, len(s), api.ErrShort
		}
		p.Code = append(p.Code, referenceIns(layout, rest))
		rest = rest[len(layout):]
	}
	if rest != "" {
		return api.Program{}, len(s) - len(rest), api.ErrLong
	}
	if _, _, e := verify.Check(p); e != api.OK {
		return api.Program{}, len(s), e
	}
	return p, len(s), api.OK
}

// mustAgree checks Decode by the reference, and that a program that it returns
// has exactly the decoded bytes. It returns the error.
func mustAgree(t testing.TB, b []byte) api.Errno {
	t.Helper()
	want, wantAt, wantErr := reference(string(b))
	p, at, e := Decode(b)
	if e != wantErr || at != wantAt || !same(p, want) {
		t.Fatalf("Decode of %d bytes %v = %v and %v, %d, %v, want %v and %v, %d, %v", len(b), excerpt(b), p.Size, excerpt(p.Code), at, e, want.Size, excerpt(want.Code), wantAt, wantErr)
	}
	if e == api.OK {
		mustBeExact(t, p, b)
	}
	return e
}

// anyProgram returns a program of at most most+1 instructions that is often
// valid: what would fail is mostly replaced.
func anyProgram(pick func(int) int, s api.Size, most int) api.Program {
	var code []api.Ins
	depth := 0
	n := 1 + pick(most)
	for at := range n {
		x := api.Ins{Op: pick(api.Ops)}
		if pick(4*most) > 0 {
			x = repaired(pick, s, x, depth, at, n)
		} else if pick(2) == 0 {
			x = spoiled(pick, x, n)
		}
		switch x.Op {
		case api.Push:
			depth++
		case api.Andp, api.Orp:
			depth--
		}
		code = append(code, x)
	}
	if pick(20) > 0 {
		code = append(code, api.Ins{Op: api.End})
	}
	return api.Program{Size: s, Code: code}
}

// repaired returns an instruction that does not fail at a depth and an index of
// a program of more than n instructions, unless it is a jmpc to another depth
// than 0.
func repaired(pick func(int) int, s api.Size, x api.Ins, depth, at, n int) api.Ins {
	form, _ := op.Form(x.Op)
	switch {
	case x.Op == api.End, depth <= 0 && (x.Op == api.Andp || x.Op == api.Orp), depth > 0 && form == op.JumpTarget:
		x.Op = api.Push
	case form == op.JumpTarget:
		x.N = at + 1 + pick(n-at)
	case form == op.WriteAddr:
		x.A = output(pick(s.Q))
	case form == op.ReadEdge:
		x.A, x.N = memory(pick(s.M)), pick(s.E)
	case form == op.ReadAddr:
		x.A = input(pick(s.I))
	}
	return x
}

// spoiled returns an instruction that often fails wherever it stands.
func spoiled(pick func(int) int, x api.Ins, n int) api.Ins {
	form, _ := op.Form(x.Op)
	switch {
	case pick(8) == 0:
		x.N = 1 + pick(9)
	case form == op.JumpTarget:
		x.N = pick(n+3) - 1
	case form != op.NoOperand:
		x.A = api.Addr{Space: pick(4), N: pick(6)}
	}
	return x
}
