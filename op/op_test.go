package op

import (
	"math"
	"slices"
	"strconv"
	"strings"
	"testing"

	"busbar/api"
)

// instructionSet is the table of the chapter, indexed by opcode.
var instructionSet = []struct {
	name string
	form int
}{
	{"ld", 1}, {"ldn", 1}, {"and", 1}, {"andn", 1}, {"or", 1}, {"orn", 1},
	{"rise", 2}, {"fall", 2},
	{"push", 0}, {"andp", 0}, {"orp", 0},
	{"st", 3}, {"stn", 3}, {"set", 3}, {"rst", 3},
	{"jmpc", 4},
	{"end", 0},
}

// noOpcodes are ints that are no opcode; some would be one if they lost their
// upper or lower bits.
var noOpcodes = []int{
	-1, -2, -16, -17, -256, 17, 18, 32, 255, 256, 1 << 16, 1 << 31, 1 << 32, 1<<32 + 6, -1 << 32, -1<<32 + 15,
	math.MinInt, math.MinInt + 1, math.MinInt + 8, math.MaxInt - 1, math.MaxInt,
}

// noSpaces are ints that are no address space.
var noSpaces = []int{-1, -2, 3, 4, 255, 256, 1 << 32, 1<<32 + 1, -1 << 32, math.MinInt, math.MinInt + 2, math.MaxInt}

func input(n int) api.Addr  { return api.Addr{Space: api.Input, N: n} }
func output(n int) api.Addr { return api.Addr{Space: api.Output, N: n} }
func memory(n int) api.Addr { return api.Addr{Space: api.Memory, N: n} }

// withForm returns the opcodes of the given forms.
func withForm(forms ...int) []int {
	var l []int
	for o, c := range instructionSet {
		if slices.Contains(forms, c.form) {
			l = append(l, o)
		}
	}
	return l
}

// P4.1

func TestNameAndFormOfEachOpcode(t *testing.T) {
	if len(instructionSet) != api.Ops {
		t.Fatal(len(instructionSet))
	}
	for o, c := range instructionSet {
		if name := Name(o); name != c.name {
			t.Errorf("Name(%d) = %q, want %q", o, name, c.name)
		}
		if form, ok := Form(o); form != c.form || !ok {
			t.Errorf("Form(%d) = %d, %v, want %d", o, form, ok, c.form)
		}
	}
}

func TestNameAndFormOfNoOpcode(t *testing.T) {
	for _, o := range noOpcodes {
		if name := Name(o); name != "" {
			t.Errorf("Name(%d) = %q", o, name)
		}
		if form, ok := Form(o); form != 0 || ok {
			t.Errorf("Form(%d) = %d, %v", o, form, ok)
		}
	}
}

func TestFormsHaveTheirNumbers(t *testing.T) {
	if l := [5]int{NoOperand, ReadAddr, ReadEdge, WriteAddr, JumpTarget}; l != [5]int{0, 1, 2, 3, 4} {
		t.Error(l)
	}
}

// P4.2

// checking is a call of Check and the error that it must return.
type checking struct {
	s        api.Size
	x        api.Ins
	at, many int
	want     api.Errno
}

func (c checking) run(t *testing.T) {
	t.Helper()
	if e := Check(c.s, c.x, c.at, c.many); e != c.want {
		t.Errorf("Check(%v, %v, %d, %d) = %v, want %v", c.s, c.x, c.at, c.many, e, c.want)
	}
}

// small are sizes that differ from each other.
var small = api.Size{I: 3, Q: 5, M: 7, E: 4}

func TestCheckOrdinary(t *testing.T) {
	for _, x := range []api.Ins{
		{Op: api.Ld, A: input(2)}, {Op: api.Ldn, A: output(4)}, {Op: api.And, A: memory(6)},
		{Op: api.Andn, A: input(1)}, {Op: api.Or, A: output(0)}, {Op: api.Orn, A: memory(3)},
		{Op: api.Rise, A: input(0), N: 0}, {Op: api.Fall, A: memory(2), N: 3},
		{Op: api.Push}, {Op: api.Andp}, {Op: api.Orp},
		{Op: api.St, A: output(4)}, {Op: api.Stn, A: memory(6)}, {Op: api.Set, A: output(1)}, {Op: api.Rst, A: memory(0)},
		{Op: api.Jmpc, N: 5}, {Op: api.End},
	} {
		checking{small, x, 4, 9, api.OK}.run(t)
	}
}

func TestCheckSizes(t *testing.T) {
	for _, s := range []api.Size{{}, {I: 256}, {Q: 256}, {M: 256}, {E: 16384}, {I: 256, Q: 256, M: 256, E: 16384}} {
		checking{s, api.Ins{Op: api.End}, 0, 1, api.OK}.run(t)
	}
	for _, n := range []int{-1, 257, 1 << 32, math.MinInt, math.MaxInt} {
		for _, s := range []api.Size{{I: n}, {Q: n}, {M: n}} {
			checking{s, api.Ins{Op: api.End}, 0, 1, api.ErrRange}.run(t)
		}
	}
	for _, n := range []int{-1, 16385, 1 << 32, math.MinInt, math.MaxInt} {
		checking{api.Size{E: n}, api.Ins{Op: api.End}, 0, 1, api.ErrRange}.run(t)
	}
}

func TestCheckNoOpcode(t *testing.T) {
	for _, o := range noOpcodes {
		for _, x := range []api.Ins{{Op: o}, {Op: o, N: 1}, {Op: o, A: memory(1)}, {Op: o, A: api.Addr{Space: -1, N: -1}, N: -1}} {
			checking{small, x, 0, 2, api.ErrKind}.run(t)
		}
	}
}

func TestCheckOperandsThatTheFormDoesNotHave(t *testing.T) {
	for _, n := range []int{1, 2, -1, 65535, 65536, 1 << 32, math.MinInt, math.MaxInt} {
		for _, o := range withForm(NoOperand) {
			checking{small, api.Ins{Op: o, N: n}, 0, 9, api.ErrArg}.run(t)
			checking{small, api.Ins{Op: o, A: input(n)}, 0, 9, api.ErrArg}.run(t)
			checking{small, api.Ins{Op: o, A: api.Addr{Space: n}}, 0, 9, api.ErrArg}.run(t)
			checking{small, api.Ins{Op: o, A: api.Addr{Space: n, N: n}, N: n}, 0, 9, api.ErrArg}.run(t)
		}
		for _, o := range withForm(ReadAddr, WriteAddr) {
			checking{small, api.Ins{Op: o, A: memory(1), N: n}, 0, 9, api.ErrArg}.run(t)
		}
		for _, o := range withForm(JumpTarget) {
			checking{small, api.Ins{Op: o, A: input(n), N: 3}, 0, 9, api.ErrArg}.run(t)
			checking{small, api.Ins{Op: o, A: api.Addr{Space: n}, N: 3}, 0, 9, api.ErrArg}.run(t)
		}
	}
}

func TestCheckAddressWithinTheSizes(t *testing.T) {
	for _, o := range withForm(ReadAddr, ReadEdge, WriteAddr) {
		for space, width := range [3]int{small.I, small.Q, small.M} {
			within := api.OK
			if space == api.Input && slices.Contains(withForm(WriteAddr), o) {
				within = api.ErrKind
			}
			for n := range width {
				checking{small, api.Ins{Op: o, A: api.Addr{Space: space, N: n}}, 0, 1, within}.run(t)
			}
			for _, n := range []int{-1, width, width + 1, 255, 256, 1 << 32, math.MinInt, math.MaxInt} {
				checking{small, api.Ins{Op: o, A: api.Addr{Space: space, N: n}}, 0, 1, api.ErrRange}.run(t)
			}
		}
		for _, space := range noSpaces {
			checking{small, api.Ins{Op: o, A: api.Addr{Space: space}}, 0, 1, api.ErrKind}.run(t)
		}
	}
}

func TestCheckAddressAtTheLimits(t *testing.T) {
	full := api.Size{I: 256, Q: 256, M: 256, E: 16384}
	for _, o := range withForm(ReadAddr, ReadEdge, WriteAddr) {
		for _, a := range []api.Addr{output(255), memory(255)} {
			checking{full, api.Ins{Op: o, A: a}, 0, 1, api.OK}.run(t)
		}
		for _, a := range []api.Addr{input(256), output(256), memory(256)} {
			checking{full, api.Ins{Op: o, A: a}, 0, 1, api.ErrRange}.run(t)
		}
		for _, a := range []api.Addr{input(0), output(0), memory(0)} {
			checking{api.Size{E: 1}, api.Ins{Op: o, A: a}, 0, 1, api.ErrRange}.run(t)
		}
	}
	checking{full, api.Ins{Op: api.Ld, A: input(255)}, 0, 1, api.OK}.run(t)
	checking{full, api.Ins{Op: api.Set, A: input(255)}, 0, 1, api.ErrKind}.run(t)
}

func TestCheckSlot(t *testing.T) {
	for _, o := range withForm(ReadEdge) {
		for _, c := range []struct {
			slots, n int
			want     api.Errno
		}{
			{4, 0, api.OK}, {4, 1, api.OK}, {4, 3, api.OK}, {4, 4, api.ErrRange}, {4, 5, api.ErrRange},
			{4, -1, api.ErrRange}, {4, 1 << 32, api.ErrRange}, {4, math.MinInt, api.ErrRange}, {4, math.MaxInt, api.ErrRange},
			{1, 0, api.OK}, {1, 1, api.ErrRange},
			{0, 0, api.ErrRange}, {0, -1, api.ErrRange},
			{16384, 16383, api.OK}, {16384, 16384, api.ErrRange}, {16384, 65535, api.ErrRange},
		} {
			// The index and the number of instructions limit no slot.
			for _, many := range []int{0, 1, 20000} {
				checking{api.Size{I: 1, E: c.slots}, api.Ins{Op: o, N: c.n}, 2, many, c.want}.run(t)
			}
		}
	}
}

func TestCheckJumpTarget(t *testing.T) {
	for _, c := range []struct {
		n, at, many int
		want        api.Errno
	}{
		{3, 2, 4, api.OK}, {2, 2, 4, api.ErrOrder}, {1, 2, 4, api.ErrOrder}, {0, 2, 4, api.ErrOrder},
		{4, 2, 4, api.ErrRange}, {5, 2, 4, api.ErrRange}, {-1, 2, 4, api.ErrRange},
		{0, 0, 1, api.ErrOrder}, {1, 0, 1, api.ErrRange}, {1, 0, 2, api.OK},
		{0, -1, 1, api.OK}, {0, math.MinInt, 1, api.OK}, {-1, math.MinInt, 1, api.ErrRange},
		{0, math.MaxInt, 1, api.ErrOrder}, {7, 7, 8, api.ErrOrder}, {7, 8, 8, api.ErrOrder}, {7, 6, 8, api.OK},
		{0, 0, 0, api.ErrRange}, {0, -1, 0, api.ErrRange}, {0, -1, -1, api.ErrRange}, {-2, -3, -1, api.ErrRange},
		{0, -1, math.MinInt, api.ErrRange}, {math.MinInt, math.MinInt, math.MaxInt, api.ErrRange},
		{65534, 65533, 65535, api.OK}, {65535, 65533, 65535, api.ErrRange}, {65534, 65534, 65535, api.ErrOrder},
		{65536, 65535, 65537, api.OK}, {70000, 3, 80000, api.OK},
		{math.MaxInt - 1, 0, math.MaxInt, api.OK}, {math.MaxInt, 0, math.MaxInt, api.ErrRange},
		{math.MaxInt - 1, math.MaxInt - 1, math.MaxInt, api.ErrOrder}, {1<<32 + 3, 2, 4, api.ErrRange},
	} {
		checking{small, api.Ins{Op: api.Jmpc, N: c.n}, c.at, c.many, c.want}.run(t)
		checking{api.Size{}, api.Ins{Op: api.Jmpc, N: c.n}, c.at, c.many, c.want}.run(t)
	}
}

func TestCheckIndexMattersOnlyToJumps(t *testing.T) {
	for o := range instructionSet {
		if o == api.Jmpc {
			continue
		}
		for _, at := range []int{0, 3, -1, math.MinInt, math.MaxInt} {
			for _, many := range []int{0, 1, -1, 65535, math.MinInt, math.MaxInt} {
				x := api.Ins{Op: o}
				if !slices.Contains(withForm(NoOperand), o) {
					x.A = output(1)
				}
				checking{small, x, at, many, api.OK}.run(t)
			}
		}
	}
}

func TestCheckOrderOfErrors(t *testing.T) {
	bad := api.Size{M: 257}
	outside := api.Addr{Space: 9, N: -9}
	for _, c := range []checking{
		// The sizes come before everything else.
		{bad, api.Ins{Op: 99}, 0, 1, api.ErrRange},
		{bad, api.Ins{Op: api.Push, N: 1}, 0, 1, api.ErrRange},
		{bad, api.Ins{Op: api.Ld, A: outside}, 0, 1, api.ErrRange},
		{bad, api.Ins{Op: api.St}, 0, 1, api.ErrRange},
		{bad, api.Ins{Op: api.Jmpc}, 0, 1, api.ErrRange},
		// The opcode comes before the operands.
		{small, api.Ins{Op: 99, A: outside, N: -1}, 0, 1, api.ErrKind},
		// Operands that the form does not have come before those that it has.
		{small, api.Ins{Op: api.Ld, A: outside, N: 1}, 0, 1, api.ErrArg},
		{small, api.Ins{Op: api.Orn, A: input(3), N: 1}, 0, 1, api.ErrArg},
		{small, api.Ins{Op: api.St, A: outside, N: 1}, 0, 1, api.ErrArg},
		{small, api.Ins{Op: api.Rst, A: input(0), N: -1}, 0, 1, api.ErrArg},
		{small, api.Ins{Op: api.Set, A: output(5), N: 1}, 0, 1, api.ErrArg},
		{small, api.Ins{Op: api.Jmpc, A: memory(0), N: -1}, 2, 4, api.ErrArg},
		{small, api.Ins{Op: api.Jmpc, A: memory(0), N: 4}, 2, 4, api.ErrArg},
		{small, api.Ins{Op: api.Jmpc, A: memory(0), N: 2}, 2, 4, api.ErrArg},
		// The space of an address comes before its number.
		{small, api.Ins{Op: api.Ld, A: outside}, 0, 1, api.ErrKind},
		{small, api.Ins{Op: api.St, A: outside}, 0, 1, api.ErrKind},
		// An address that is written must exist before it may not be an input.
		{small, api.Ins{Op: api.St, A: input(3)}, 0, 1, api.ErrRange},
		{small, api.Ins{Op: api.Stn, A: input(-1)}, 0, 1, api.ErrRange},
		{small, api.Ins{Op: api.Stn, A: input(2)}, 0, 1, api.ErrKind},
		// The address comes before the slot.
		{small, api.Ins{Op: api.Rise, A: outside, N: 4}, 0, 1, api.ErrKind},
		{small, api.Ins{Op: api.Fall, A: api.Addr{Space: 3}, N: -1}, 0, 1, api.ErrKind},
		{small, api.Ins{Op: api.Fall, A: input(3), N: 4}, 0, 1, api.ErrRange},
		// The range of a jump target comes before its order.
		{small, api.Ins{Op: api.Jmpc, N: -1}, 2, 4, api.ErrRange},
		{small, api.Ins{Op: api.Jmpc, N: 4}, 6, 4, api.ErrRange},
		{small, api.Ins{Op: api.Jmpc, N: 0}, 0, 0, api.ErrRange},
	} {
		c.run(t)
	}
}

// P4.3

// texts are instructions with their assembly texts.
var texts = []struct {
	x api.Ins
	t string
}{
	{api.Ins{}, "ld I0"},
	{api.Ins{Op: api.Ld, A: memory(12)}, "ld M12"},
	{api.Ins{Op: api.Ld, A: output(0)}, "ld Q0"},
	{api.Ins{Op: api.Ldn, A: output(3)}, "ldn Q3"},
	{api.Ins{Op: api.And, A: input(255)}, "and I255"},
	{api.Ins{Op: api.Andn, A: memory(255)}, "andn M255"},
	{api.Ins{Op: api.Or, A: input(10)}, "or I10"},
	{api.Ins{Op: api.Orn, A: output(255)}, "orn Q255"},
	{api.Ins{Op: api.Rise, A: input(3), N: 2}, "rise I3 2"},
	{api.Ins{Op: api.Rise}, "rise I0 0"},
	{api.Ins{Op: api.Rise, A: memory(100), N: 16383}, "rise M100 16383"},
	{api.Ins{Op: api.Fall, A: memory(255), N: 65535}, "fall M255 65535"},
	{api.Ins{Op: api.Fall, A: output(7), N: 65534}, "fall Q7 65534"},
	{api.Ins{Op: api.Push}, "push"},
	{api.Ins{Op: api.Andp}, "andp"},
	{api.Ins{Op: api.Orp}, "orp"},
	{api.Ins{Op: api.St, A: output(0)}, "st Q0"},
	{api.Ins{Op: api.Stn, A: memory(9)}, "stn M9"},
	{api.Ins{Op: api.Set, A: output(99)}, "set Q99"},
	{api.Ins{Op: api.Set, A: input(9)}, "set I9"},
	{api.Ins{Op: api.Rst, A: memory(1)}, "rst M1"},
	{api.Ins{Op: api.Jmpc}, "jmpc 0"},
	{api.Ins{Op: api.Jmpc, N: 7}, "jmpc 7"},
	{api.Ins{Op: api.Jmpc, N: 10}, "jmpc 10"},
	{api.Ins{Op: api.Jmpc, N: 65535}, "jmpc 65535"},
	{api.Ins{Op: api.End}, "end"},
}

func TestFormatAndParseOrdinary(t *testing.T) {
	for _, c := range texts {
		if s := Format(c.x); s != c.t {
			t.Errorf("Format(%v) = %q, want %q", c.x, s, c.t)
		}
		if x, e := Parse(c.t); x != c.x || e != api.OK {
			t.Errorf("Parse(%q) = %v, %v, want %v", c.t, x, e, c.x)
		}
	}
}

func mustNotFormat(t *testing.T, x api.Ins) {
	t.Helper()
	if s := Format(x); s != "" {
		t.Errorf("Format(%v) = %q", x, s)
	}
}

func TestFormatNoOpcode(t *testing.T) {
	for _, o := range noOpcodes {
		mustNotFormat(t, api.Ins{Op: o})
		mustNotFormat(t, api.Ins{Op: o, A: input(1), N: 1})
	}
}

func TestFormatOperandsThatTheFormDoesNotHave(t *testing.T) {
	for _, n := range []int{1, 2, -1, 65535, 65536, 1 << 32, math.MinInt, math.MaxInt} {
		for _, o := range withForm(NoOperand) {
			mustNotFormat(t, api.Ins{Op: o, N: n})
		}
		for _, o := range withForm(NoOperand, JumpTarget) {
			mustNotFormat(t, api.Ins{Op: o, A: input(n)})
			mustNotFormat(t, api.Ins{Op: o, A: api.Addr{Space: n}})
			mustNotFormat(t, api.Ins{Op: o, A: api.Addr{Space: n, N: n}})
		}
		for _, o := range withForm(ReadAddr, WriteAddr) {
			mustNotFormat(t, api.Ins{Op: o, A: output(1), N: n})
		}
	}
}

func TestFormatAddressWithoutText(t *testing.T) {
	for _, o := range withForm(ReadAddr, ReadEdge, WriteAddr) {
		for _, n := range []int{-1, 256, 1 << 32, math.MinInt, math.MaxInt} {
			for _, a := range []api.Addr{input(n), output(n), memory(n)} {
				mustNotFormat(t, api.Ins{Op: o, A: a})
			}
		}
		for _, space := range noSpaces {
			mustNotFormat(t, api.Ins{Op: o, A: api.Addr{Space: space, N: 1}})
		}
	}
}

func TestFormatNumberOutOfRange(t *testing.T) {
	for _, o := range withForm(ReadEdge, JumpTarget) {
		for _, n := range []int{-1, -2, -65535, 65536, 65537, 131072, 1 << 32, 1<<32 + 1, math.MinInt, math.MaxInt} {
			mustNotFormat(t, api.Ins{Op: o, N: n})
		}
	}
}

func mustNotParse(t *testing.T, s string) {
	t.Helper()
	if x, e := Parse(s); x != (api.Ins{}) || e != api.ErrForm {
		t.Errorf("Parse(%.100q) = %v, %v", s, x, e)
	}
}

func TestParseInvalid(t *testing.T) {
	for _, s := range []string{
		"", " ", "  ", "   ", "\x00", "\xff", "é",
		// unknown mnemonics
		"nop", "l I0", "lda I0", "jmp 0", "jmpcx 0", "ends", "I0", "0", "0 I0", "I0 ld", "no I0", "out Q0",
		"LD I0", "Ld I0", "lD I0", "PUSH", "Push", "JMPC 7", "End", "Rise I3 2", "ld\x00 I0", "\u017ft Q0",
		// addresses without a text
		"ld i0", "ld I", "ld 0", "ld I00", "ld I01", "ld I+1", "ld I-1", "ld I256", "ld Q256", "ld M256", "ld I1000",
		"ld X0", "ld II0", "ld I0x", "ld I99999999999999999999", "st Q256", "st q0", "rise I 0", "rise 0 0", "rise I256 0", "fall M-1 0",
		// numbers without a text
		"jmpc x", "jmpc 65536", "jmpc 65537", "jmpc 99999", "jmpc 100000", "jmpc 4294967296", "jmpc 4294967303",
		"jmpc 18446744073709551616", "jmpc 18446744073709551623", "jmpc 9223372036854775807", "jmpc 9223372036854775808",
		"jmpc -1", "jmpc -0", "jmpc +0", "jmpc +7", "jmpc -9223372036854775808", "jmpc 00", "jmpc 07", "jmpc 007", "jmpc 065535",
		"jmpc 7x", "jmpc x7", "jmpc 0x7", "jmpc 1_0", "jmpc 7.", "jmpc 7.0", "jmpc 1e1", "jmpc \u0667", "jmpc 7\x00",
		"rise I0 65536", "rise I0 -1", "rise I0 01", "rise I0 +1", "rise I0 00", "rise I0 x", "fall I0 4294967296", "fall I0 1e3",
		// a word too few
		"ld", "andn", "st", "rst", "rise", "rise I3", "fall M0", "fall 2", "jmpc",
		// a word too many
		"ld I0 0", "ld I0 1", "ld I0 I0", "st Q0 0", "set Q0 1", "rise I3 2 0", "rise I3 I3 2", "rise I3 2 2", "jmpc 7 0", "jmpc 0 7", "jmpc I0 7", "jmpc I0",
		"push 0", "push I0", "push I0 0", "andp 1", "orp M1", "end 0", "end end", "push push",
		// words in another order, or of another kind
		"rise 2 I3", "ld 0 I0", "st 1", "jmpc Q0",
		// other characters between the words
		"ld\tI0", "ld\nI0", "ldI0", "ld,I0", "rise I3,2", "rise I3\t2", "jmpc7", "ld\u00a0I0", "ld I0\n", "\nld I0", "end\n", "end\r", "end\t",
	} {
		mustNotParse(t, s)
	}
}

func TestParseSpacesTooMany(t *testing.T) {
	for _, c := range texts {
		for _, s := range []string{" " + c.t, c.t + " ", "  " + c.t, c.t + "  ", " " + c.t + " "} {
			mustNotParse(t, s)
		}
		for i := range len(c.t) {
			mustNotParse(t, c.t[:i]+" "+c.t[i:])
		}
	}
}

func TestParseLong(t *testing.T) {
	long := 100000
	for _, s := range []string{
		strings.Repeat(" ", long), strings.Repeat("ld ", long), strings.Repeat("9", long),
		"jmpc " + strings.Repeat("9", long), "jmpc " + strings.Repeat("0", long) + "7", "jmpc 7" + strings.Repeat(" ", long),
		"ld I" + strings.Repeat("1", long), "rise I3 " + strings.Repeat("1", long), "end" + strings.Repeat(" 0", long),
	} {
		mustNotParse(t, s)
	}
}

// Each text is either refused or the text of the instruction that Parse returns.
func TestParseTextsThatDifferInOneCharacter(t *testing.T) {
	characters := " 0123456789-+IQMadefjlnoprstuxLD\n\x00\xff"
	for _, c := range texts {
		for i := range len(c.t) + 1 {
			for j := range len(characters) {
				mustParseAsFormatted(t, c.t[:i]+characters[j:j+1]+c.t[i:])
				if i < len(c.t) {
					mustParseAsFormatted(t, c.t[:i]+characters[j:j+1]+c.t[i+1:])
				}
			}
			if i < len(c.t) {
				mustParseAsFormatted(t, c.t[:i]+c.t[i+1:])
			}
		}
	}
}

func mustParseAsFormatted(t *testing.T, s string) {
	t.Helper()
	if x, e := Parse(s); e != api.OK {
		mustNotParse(t, s)
	} else if f := textOf(x); f != s {
		t.Errorf("Parse(%q) = %v with the text %q", s, x, f)
	}
}

// textOf returns the assembly text of an instruction that has one.
func textOf(x api.Ins) string {
	c := instructionSet[x.Op]
	a := " " + []string{"I", "Q", "M"}[x.A.Space] + strconv.Itoa(x.A.N)
	n := " " + strconv.Itoa(x.N)
	return c.name + []string{"", a, a + n, a, n}[c.form]
}

// P4.4

func mustInvert(t *testing.T, x api.Ins) {
	t.Helper()
	s := Format(x)
	if s != textOf(x) {
		t.Errorf("Format(%v) = %q, want %q", x, s, textOf(x))
	}
	if y, e := Parse(s); y != x || e != api.OK {
		t.Errorf("Parse(%q) = %v, %v, want %v", s, y, e, x)
	}
}

func TestParseInvertsFormatOnAddresses(t *testing.T) {
	for _, o := range withForm(ReadAddr, WriteAddr, ReadEdge) {
		for n := range api.MaxBits {
			for _, a := range []api.Addr{input(n), output(n), memory(n)} {
				mustInvert(t, api.Ins{Op: o, A: a})
			}
		}
	}
}

func TestParseInvertsFormatOnNumbers(t *testing.T) {
	for n := range 65536 {
		mustInvert(t, api.Ins{Op: api.Jmpc, N: n})
		mustInvert(t, api.Ins{Op: api.Rise, A: memory(n % 256), N: n})
		mustInvert(t, api.Ins{Op: api.Fall, A: output(n / 256), N: n})
	}
}

func TestParseInvertsFormatWithoutOperands(t *testing.T) {
	for _, o := range withForm(NoOperand) {
		mustInvert(t, api.Ins{Op: o})
	}
}
