package bytecode

import (
	"slices"
	"strings"
	"testing"

	"busbar/api"
)

// P8.2

// forms is a program with an instruction of every form, and with numbers whose
// two bytes differ.
func forms() api.Program {
	return api.Program{
		Size: api.Size{I: 256, Q: 255, M: 3, E: 772},
		Code: assembled("ld I255, jmpc 5, push, rise Q254 258, andp, fall M2 771, st Q1, end"),
	}
}

const formsList = "66 66 49 0 1 255 0 3 0 4 3 8 0 0 0 255 15 5 0 8 6 1 254 2 1 9 7 2 2 3 3 11 1 1 16"

func TestDecodeForms(t *testing.T) {
	mustBe(t, forms(), listed(formsList))
}

// TestDecodeEveryPrefix cuts encodings at every offset.
func TestDecodeEveryPrefix(t *testing.T) {
	for _, b := range [][]byte{
		listed(formsList),
		listed("66 66 49 1 0 0 0 0 0 0 0 2 0 0 0 0 16"),
		smallBytes(1, "16"),
		smallBytes(3, "8 9 16"),
		joined(header(full, 300), slices.Repeat(listed("7 2 255 255 63"), 299), listed("16")),
	} {
		for n := range b {
			if n < 3 {
				mustNotDecode(t, b[:n], 0, api.ErrForm)
			} else {
				mustNotDecode(t, b[:n], n, api.ErrShort)
			}
		}
		if _, at, e := Decode(b); at != len(b) || e != api.OK {
			t.Errorf("Decode of %v = %d, %v", excerpt(b), at, e)
		}
	}
}

func TestDecodeNoBytes(t *testing.T) {
	for _, b := range [][]byte{nil, {}, make([]byte, 0, 20), []byte("BB1\x00")[:0]} {
		if p, at, e := Decode(b); at != 0 || e != api.ErrForm || p.Size != (api.Size{}) || len(p.Code) != 0 {
			t.Errorf("Decode of no bytes = %v, %d, %v", p, at, e)
		}
	}
}

// TestDecodeMagic has every wrong value of each byte of the magic number, in
// front of a program and in front of less.
func TestDecodeMagic(t *testing.T) {
	b := listed(formsList)
	for at := range 3 {
		for v := range 256 {
			if byte(v) == b[at] {
				continue
			}
			wrong := replaced(b, at, byte(v))
			for _, n := range []int{at + 1, 3, 4, 5, 12, 13, 14, len(b) - 1, len(b)} {
				mustNotDecode(t, wrong[:n], 0, api.ErrForm)
			}
			mustNotDecode(t, append(wrong, 0), 0, api.ErrForm)
		}
	}
	for _, s := range []string{"1BB", "B1B", "bb1", "B1", "BBB1", " BB1", "BB\x01", "\x00BB1", "BB 1"} {
		mustNotDecode(t, []byte(s), 0, api.ErrForm)
		mustNotDecode(t, joined([]byte(s), b[3:]), 0, api.ErrForm)
	}
	mustNotDecode(t, b[1:], 0, api.ErrForm)
	mustNotDecode(t, b[3:], 0, api.ErrForm)
}

// TestDecodeEndWithinNumbers ends before and within each of the five numbers,
// whatever they are.
func TestDecodeEndWithinNumbers(t *testing.T) {
	for _, v := range []byte{0, 1, 16, 17, 66, 255} {
		b := joined([]byte("BB1"), slices.Repeat([]byte{v}, 10))
		for n := 3; n < 13; n++ {
			mustNotDecode(t, b[:n], n, api.ErrShort)
		}
	}
	mustNotDecode(t, header(small, 1), 13, api.ErrShort)
	mustNotDecode(t, header(small, 0), 13, api.ErrNone)
}

// TestDecodeEndWithinInstruction ends within each part of each instruction, as
// the first and as a later one.
func TestDecodeEndWithinInstruction(t *testing.T) {
	for o, layout := range layouts {
		for _, before := range []string{"", "16", "0 0 1 8 9 6 0 1 2 0"} {
			start := smallBytes(9, before)
			for _, v := range []byte{0, 1, 16, 17, 255} {
				b := append(slices.Clone(start), byte(o))
				for len(b)-len(start) < len(layout) {
					mustNotDecode(t, b, len(b), api.ErrShort)
					b = append(b, v)
				}
				// The whole instruction, but none of those that should follow.
				mustNotDecode(t, b, len(b), api.ErrShort)
			}
		}
	}
}

// TestDecodeAnnounced announces other numbers of instructions than there are.
func TestDecodeAnnounced(t *testing.T) {
	for _, c := range []struct {
		many int
		list string
		at   int
		e    api.Errno
	}{
		{0, "", 13, api.ErrNone},
		{0, "16", 13, api.ErrLong},
		{0, "17", 13, api.ErrLong},
		{1, "", 13, api.ErrShort},
		{1, "16 16", 14, api.ErrLong},
		{1, "16 0", 14, api.ErrLong},
		{2, "16", 14, api.ErrShort},
		{2, "0 0 1 16 17 17", 17, api.ErrLong},
		{3, "0 0 1 16", 17, api.ErrShort},
		{255, "16 16 16", 16, api.ErrShort},
		{256, "", 13, api.ErrShort},
		{256, "16", 14, api.ErrShort},
		{257, "16", 14, api.ErrShort},
		{65280, "16", 14, api.ErrShort},
		{65535, "", 13, api.ErrShort},
		{65535, "0 0 1 16", 17, api.ErrShort},
		{65535, "0 0 1 8 6 0", 19, api.ErrShort},
		{65535, "8 17", 14, api.ErrKind},
	} {
		mustNotDecode(t, smallBytes(c.many, c.list), c.at, c.e)
	}
}

// TestDecodeManyAnnounced has some, all, and more than all of the instructions
// that are announced.
func TestDecodeManyAnnounced(t *testing.T) {
	for _, n := range []int{1, 2, 255, 256, 257, 32768, 65534, 65535} {
		b := joined(header(small, n), slices.Repeat(listed("0 0 1"), n-1), listed("16"))
		p := api.Program{Size: small, Code: joined(many(n-1, api.Ins{A: input(1)}), assembled("end"))}
		mustDecode(t, b, p)
		mustNotDecode(t, b[:len(b)-1], len(b)-1, api.ErrShort)
		mustNotDecode(t, append(slices.Clone(b), 16), len(b), api.ErrLong)
		mustNotDecode(t, joined(header(small, n-1), b[13:]), len(b)-1, api.ErrLong)
		if n < 65535 {
			mustNotDecode(t, joined(header(small, n+1), b[13:]), len(b), api.ErrShort)
			mustNotDecode(t, joined(header(small, 65535), b[13:]), len(b), api.ErrShort)
		}
	}
	mustNotDecode(t, joined(header(small, 65535), make([]byte, 65535*3)), 13+65535*3, api.ErrShort)
	mustNotDecode(t, joined(header(small, 65535), make([]byte, 65535*3-1)), 13+65535*3-1, api.ErrShort)
	mustNotDecode(t, joined(header(small, 65535), make([]byte, 65535*3+5)), 13+65535*3, api.ErrLong)
}

// TestDecodeUnknownOpcode has every unknown opcode as the first, a middle and
// the last instruction, with nothing and with something behind it.
func TestDecodeUnknownOpcode(t *testing.T) {
	for o := 17; o < 256; o++ {
		for _, c := range []struct {
			many   int
			before string
		}{
			{1, ""}, {3, ""}, {65535, ""},
			{3, "0 0 1"}, {3, "6 0 1 4 0"}, {4, "15 2 0 8"}, {9, "8 9 16"},
			{2, "16"}, {2, "14 2 3"}, {3, "8 10"}, {4, "7 2 3 4 0 0 0 1 8"},
		} {
			b := append(smallBytes(c.many, c.before), byte(o))
			at := len(b) - 1
			mustNotDecode(t, b, at, api.ErrKind)
			for _, rest := range []string{"0", "16", "17", "0 0", "0 0 0 0", "255 255 255 255 255"} {
				mustNotDecode(t, append(b, listed(rest)...), at, api.ErrKind)
			}
		}
	}
}

// TestDecodeMore has bytes behind the last instruction.
func TestDecodeMore(t *testing.T) {
	for _, b := range [][]byte{listed(formsList), smallBytes(1, "16"), smallBytes(2, "0 0 1 16")} {
		for v := range 256 {
			mustNotDecode(t, append(slices.Clone(b), byte(v)), len(b), api.ErrLong)
		}
		for _, list := range []string{"16 16", "0 0", "66 66 49", "255 255 255 255 255 255"} {
			mustNotDecode(t, append(slices.Clone(b), listed(list)...), len(b), api.ErrLong)
		}
		mustNotDecode(t, append(slices.Clone(b), b...), len(b), api.ErrLong)
		mustNotDecode(t, append(slices.Clone(b), make([]byte, 100000)...), len(b), api.ErrLong)
	}
}

// TestDecodeInvalid has bytes that decode, but to an invalid program.
func TestDecodeInvalid(t *testing.T) {
	for _, c := range []struct {
		many int
		list string
		e    api.Errno
	}{
		{0, "", api.ErrNone},
		{2, "0 3 0 16", api.ErrKind},
		{2, "0 255 0 16", api.ErrKind},
		{2, "6 3 0 0 0 16", api.ErrKind},
		{2, "14 255 255 16", api.ErrKind},
		{2, "11 0 0 16", api.ErrKind},
		{2, "13 0 1 16", api.ErrKind},
		{2, "0 0 2 16", api.ErrRange},
		{2, "1 1 3 16", api.ErrRange},
		{2, "2 2 4 16", api.ErrRange},
		{2, "12 2 255 16", api.ErrRange},
		{2, "6 0 1 5 0 16", api.ErrRange},
		{2, "7 0 1 0 1 16", api.ErrRange},
		{2, "7 0 1 255 255 16", api.ErrRange},
		{2, "15 2 0 16", api.ErrRange},
		{2, "15 1 1 16", api.ErrRange},
		{2, "15 255 255 16", api.ErrRange},
		{2, "15 0 0 16", api.ErrOrder},
		{3, "16 15 1 0 16", api.ErrOrder},
		{2, "9 16", api.ErrStack},
		{4, "8 10 10 16", api.ErrStack},
		{66, strings.Repeat("8 ", 65) + "16", api.ErrDeep},
		{4, "8 15 3 0 9 16", api.ErrState},
		{3, "15 2 0 8 16", api.ErrState},
		{1, "0 0 1", api.ErrShort},
		{2, "16 8", api.ErrShort},
	} {
		b := smallBytes(c.many, c.list)
		mustNotDecode(t, b, len(b), c.e)
	}
}

// TestDecodeInvalidSizes has all sizes that are too great and have a code.
func TestDecodeInvalidSizes(t *testing.T) {
	refused := func(s api.Size) {
		b := joined(header(s, 1), listed("16"))
		if p, at, e := Decode(b); at != 14 || e != api.ErrRange || p.Size != (api.Size{}) || len(p.Code) != 0 {
			t.Fatalf("Decode of the sizes %v = %v, %d, %v", s, p, at, e)
		}
	}
	for n := 257; n < 65536; n++ {
		refused(api.Size{I: n})
		refused(api.Size{Q: n})
		refused(api.Size{M: n})
		if n > 16384 {
			refused(api.Size{E: n})
		}
	}
	for _, list := range []string{"1 1 0 0 0 0 0 0", "0 0 1 1 0 0 0 0", "0 0 0 0 1 1 0 0", "0 0 0 0 0 0 1 64", "255 255 255 255 255 255 255 255"} {
		mustNotDecode(t, listed("66 66 49 "+list+" 1 0 16"), 14, api.ErrRange)
	}
}

// TestDecodeOrder has two errors at once, in the order of the checks: of the
// magic number, the numbers, the opcode and the end of an instruction, the end
// of the bytes, and layer 7.
func TestDecodeOrder(t *testing.T) {
	for _, c := range []struct {
		list string
		at   int
		e    api.Errno
	}{
		// The magic number, and each of the others.
		{"66 66", 0, api.ErrForm},
		{"66 67", 0, api.ErrForm},
		{"66 66 50", 0, api.ErrForm},
		{"66 66 50 2 0 3", 0, api.ErrForm},
		{"66 66 50 2 0 3 0 4 0 5 0 1 0 17", 0, api.ErrForm},
		{"66 66 50 2 0 3 0 4 0 5 0 1 0 0 0", 0, api.ErrForm},
		{"66 66 50 2 0 3 0 4 0 5 0 1 0 16 0", 0, api.ErrForm},
		{"66 66 50 2 0 3 0 4 0 5 0 1 0 8", 0, api.ErrForm},
		// The numbers, and what would be invalid in them.
		{"66 66 49 255", 4, api.ErrShort},
		{"66 66 49 255 255 3 0 4", 8, api.ErrShort},
		{"66 66 49 2 0 3 0 4 0 5 0 0", 12, api.ErrShort},
		// An unknown opcode, and the end within that or a later instruction.
		{"66 66 49 2 0 3 0 4 0 5 0 1 0 17", 13, api.ErrKind},
		{"66 66 49 2 0 3 0 4 0 5 0 2 0 17", 13, api.ErrKind},
		{"66 66 49 2 0 3 0 4 0 5 0 2 0 17 0", 13, api.ErrKind},
		{"66 66 49 2 0 3 0 4 0 5 0 2 0 17 0 0", 13, api.ErrKind},
		{"66 66 49 2 0 3 0 4 0 5 0 3 0 8 18 17", 14, api.ErrKind},
		// The end within an instruction, and what is unknown or invalid in it.
		{"66 66 49 2 0 3 0 4 0 5 0 2 0 0 255", 15, api.ErrShort},
		{"66 66 49 2 0 3 0 4 0 5 0 2 0 6 17 255 17", 17, api.ErrShort},
		// An unknown opcode, and bytes that are too many.
		{"66 66 49 2 0 3 0 4 0 5 0 1 0 17 16", 13, api.ErrKind},
		{"66 66 49 2 0 3 0 4 0 5 0 2 0 8 17 16 16", 14, api.ErrKind},
		// An unknown opcode or the end, and an earlier objection of layer 7.
		{"66 66 49 255 255 3 0 4 0 5 0 1 0 17", 13, api.ErrKind},
		{"66 66 49 2 0 3 0 4 0 5 0 2 0 0 3 0 17", 16, api.ErrKind},
		{"66 66 49 2 0 3 0 4 0 5 0 2 0 9 17", 14, api.ErrKind},
		{"66 66 49 255 255 3 0 4 0 5 0 1 0", 13, api.ErrShort},
		{"66 66 49 2 0 3 0 4 0 5 0 2 0 11 0 9", 16, api.ErrShort},
		{"66 66 49 2 0 3 0 4 0 5 0 3 0 9 15 2", 16, api.ErrShort},
		// Bytes that are too many, and each kind of objection of layer 7.
		{"66 66 49 255 255 3 0 4 0 5 0 1 0 16 16", 14, api.ErrLong},
		{"66 66 49 2 0 3 0 4 0 5 0 0 0 16", 13, api.ErrLong},
		{"66 66 49 2 0 3 0 4 0 5 0 1 0 0 3 0 16", 16, api.ErrLong},
		{"66 66 49 2 0 3 0 4 0 5 0 1 0 9 16", 14, api.ErrLong},
		{"66 66 49 2 0 3 0 4 0 5 0 3 0 8 15 2 0 16 0", 18, api.ErrLong},
		{"66 66 49 2 0 3 0 4 0 5 0 1 0 8 16", 14, api.ErrLong},
		// Two objections of layer 7.
		{"66 66 49 255 255 3 0 4 0 5 0 0 0", 13, api.ErrRange},
		{"66 66 49 2 0 3 0 4 0 5 0 2 0 9 0 3 0", 17, api.ErrKind},
		{"66 66 49 2 0 3 0 4 0 5 0 1 0 9", 14, api.ErrStack},
	} {
		mustNotDecode(t, listed(c.list), c.at, c.e)
	}
}

// TestDecodeLongest cuts and spoils the longest encoding.
func TestDecodeLongest(t *testing.T) {
	b := joined(header(full, 65535), slices.Repeat(listed("7 2 255 255 63"), 65534), listed("16"))
	last := len(b) - 1
	for _, n := range []int{13, 14, 20, 100000, last - 5, last - 4, last - 1, last} {
		mustNotDecode(t, b[:n], n, api.ErrShort)
	}
	mustNotDecode(t, replaced(b, last, 255), last, api.ErrKind)
	mustNotDecode(t, replaced(b, last-5, 17), last-5, api.ErrKind)
	mustNotDecode(t, append(slices.Clone(b), 0), len(b), api.ErrLong)
	mustNotDecode(t, replaced(b, last, 8), len(b), api.ErrShort)
	mustNotDecode(t, replaced(b, last-1, 64), len(b), api.ErrRange)
	mustNotDecode(t, replaced(b, last-4, 3), len(b), api.ErrKind)
}

func TestDecodeSharesNothing(t *testing.T) {
	b := listed(formsList)
	one, _, _ := Decode(b)
	two, _, _ := Decode(b)
	clear(one.Code[:cap(one.Code)])
	clear(b)
	if !same(two, forms()) {
		t.Errorf("a result of Decode became %v", two)
	}
}
