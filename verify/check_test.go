package verify

import (
	"math"
	"slices"
	"strings"
	"sync"
	"testing"

	"busbar/api"
)

// P7.2

// plain returns a valid program of n instructions.
func plain(n int) []api.Ins {
	return joined(slices.Repeat(assembled("ld I0"), n-1), assembled("end"))
}

func TestCheckOrdinary(t *testing.T) {
	for _, c := range []struct {
		list  string
		depth int
	}{
		{"end", 0},
		{"ld I0, end", 0},
		{"ld I0, st Q0, end", 0},
		{"rise I1 0, fall M3 4, stn Q2, set M0, rst M3, end", 0},
		{"ld I0, push, ldn I1, push, and Q0, orp, andn M0, andp, st Q0, end", 2},
		{"push, push, push, andp, orp, andp, push, orp, end", 3},
		{"push, orp, push, andp, push, push, orp, andp, push, orp, end", 2},
		{"ld I0, jmpc 3, st Q0, ld I1, jmpc 6, st Q1, end", 0},
		{"end, end", 0},
	} {
		mustPass(t, program(c.list), c.depth)
	}
	mustPass(t, api.Program{Size: api.Size{I: 1}, Code: assembled("ld I0, end")}, 0)
}

// TestCheckDepthIsTheGreatest has the greatest depth at the front, in the
// middle and at the end, also where the stack is not emptied.
func TestCheckDepthIsTheGreatest(t *testing.T) {
	for n := range 65 {
		up, down := many(n, api.Push), many(n, api.Andp)
		end := assembled("end")
		for _, code := range [][]api.Ins{
			joined(up, end),
			joined(up, down, end),
			joined(up, down, up, end),
			joined(up, down, assembled("ld I0"), end),
			joined(assembled("ld I0"), up, assembled("st Q0"), down, end),
			joined(assembled("jmpc 1"), up, end),
			joined(end, up, end),
		} {
			mustPass(t, api.Program{Size: small, Code: code}, n)
		}
		mustPass(t, api.Program{Size: small, Code: joined(assembled("push, orp"), up, down, assembled("push, push, orp, orp"), end)}, max(n, 2))
	}
}

// Check 1: the sizes.

func TestCheckSizes(t *testing.T) {
	for _, s := range []api.Size{{}, {I: 256}, {Q: 256}, {M: 256}, {E: 16384}, {I: 256, Q: 256, M: 256, E: 16384}} {
		mustPass(t, api.Program{Size: s, Code: assembled("end")}, 0)
	}
	for _, n := range append([]int{257, 16384}, noIndices...) {
		for _, s := range []api.Size{{I: n}, {Q: n}, {M: n}, {I: 1, Q: 1, M: n, E: 1}} {
			mustFail(t, api.Program{Size: s, Code: assembled("end")}, 0, api.ErrRange)
		}
	}
	for _, n := range append([]int{16385}, noIndices...) {
		mustFail(t, api.Program{Size: api.Size{E: n}, Code: assembled("end")}, 0, api.ErrRange)
		mustFail(t, api.Program{Size: api.Size{I: 1, E: n}, Code: assembled("ld I0, ld I0, end")}, 0, api.ErrRange)
	}
}

func TestCheckOperandsAtTheSizes(t *testing.T) {
	full := api.Size{I: 256, Q: 256, M: 256, E: 16384}
	code := assembled("ld I255, and Q255, or M255, rise I255 16383, fall Q255 16383, st Q255, set M255, ldn I0, rise M0 0, end")
	mustPass(t, api.Program{Size: full, Code: code}, 0)
	for at, less := range []api.Size{
		{I: 255, Q: 256, M: 256, E: 16384},
		{I: 256, Q: 255, M: 256, E: 16384},
		{I: 256, Q: 256, M: 255, E: 16384},
		{I: 256, Q: 256, M: 256, E: 16383},
	} {
		mustFail(t, api.Program{Size: less, Code: code}, at, api.ErrRange)
	}
	for _, list := range []string{"ld I0, end", "ld Q0, end", "ld M0, end", "st Q0, end", "set M0, end", "rise I0 0, end"} {
		mustFail(t, api.Program{Code: assembled(list)}, 0, api.ErrRange)
	}
	mustFail(t, api.Program{Size: api.Size{I: 1}, Code: assembled("rise I0 0, end")}, 0, api.ErrRange)
	mustPass(t, api.Program{Size: api.Size{I: 1, E: 1}, Code: assembled("rise I0 0, end")}, 0)
}

// Check 2: the number of instructions.

func TestCheckNoInstructions(t *testing.T) {
	for _, code := range [][]api.Ins{nil, {}, make([]api.Ins, 0, 5)} {
		for _, s := range []api.Size{{}, small} {
			mustFail(t, api.Program{Size: s, Code: code}, 0, api.ErrNone)
			if depth, at, e := Check(api.Program{Size: s, Code: code}); depth != 0 || at != 0 || e != api.ErrNone {
				t.Errorf("Check = %d, %d, %v", depth, at, e)
			}
		}
	}
}

func TestCheckManyInstructions(t *testing.T) {
	for _, n := range []int{1, 2, 3, 1000, 65534, 65535} {
		mustPass(t, api.Program{Size: small, Code: plain(n)}, 0)
	}
	for _, n := range []int{65536, 65537, 131072, 200000} {
		mustFail(t, api.Program{Size: small, Code: plain(n)}, 0, api.ErrLong)
	}
}

// TestCheckProgramOfMaxCode fails each of the later checks at the last index at
// which it can fail in the longest program.
func TestCheckProgramOfMaxCode(t *testing.T) {
	code := plain(65535)
	long := func(at int, list string) api.Program {
		l := slices.Clone(code)
		copy(l[at:], assembled(list))
		return api.Program{Size: small, Code: l}
	}
	mustPass(t, long(65530, "ld I0, jmpc 65534, push, orp, end"), 1)
	mustPass(t, long(0, "jmpc 65534"), 0)
	mustPass(t, long(65533, "jmpc 65534"), 0)
	mustFail(t, long(65533, "ld I2"), 65533, api.ErrRange)
	mustFail(t, long(65533, "jmpc 65535"), 65533, api.ErrRange)
	mustFail(t, long(65533, "jmpc 65533"), 65533, api.ErrOrder)
	mustFail(t, long(65534, "jmpc 65534"), 65534, api.ErrOrder)
	mustFail(t, long(65533, "andp"), 65533, api.ErrStack)
	mustFail(t, long(65534, "orp"), 65534, api.ErrStack)
	mustFail(t, long(65534-65, strings.Repeat("push, ", 64)+"push"), 65533, api.ErrDeep)
	mustFail(t, long(65532, "push, jmpc 65534"), 65533, api.ErrState)
	mustFail(t, long(65534, "ld I0"), 65535, api.ErrShort)
}

// Check 3: each instruction for itself.

// invalid is an instruction that fails at an index of a program of seven
// instructions, and its error.
type invalid struct {
	x api.Ins
	e api.Errno
}

// invalidAt returns instructions of every opcode and with every error of
// op.Check that fail at an index of a program of seven instructions.
func invalidAt(at int) []invalid {
	l := []invalid{
		{jump(at), api.ErrOrder}, {jump(0), api.ErrOrder}, {jump(max(0, at-1)), api.ErrOrder},
		{jump(7), api.ErrRange}, {jump(8), api.ErrRange}, {jump(65535), api.ErrRange},
		{api.Ins{Op: api.Jmpc, A: input(1), N: 6}, api.ErrArg},
	}
	for _, o := range noOpcodes {
		l = append(l, invalid{api.Ins{Op: o}, api.ErrKind}, invalid{api.Ins{Op: o, A: input(o), N: o}, api.ErrKind})
	}
	for _, n := range noIndices {
		l = append(l, invalid{jump(n), api.ErrRange})
		for _, o := range []int{api.Push, api.Andp, api.Orp, api.End} {
			l = append(l, invalid{api.Ins{Op: o, N: n}, api.ErrArg}, invalid{api.Ins{Op: o, A: input(n)}, api.ErrArg}, invalid{api.Ins{Op: o, A: api.Addr{Space: n}}, api.ErrArg})
		}
		for _, o := range []int{api.Ld, api.Ldn, api.And, api.Andn, api.Or, api.Orn, api.St, api.Stn, api.Set, api.Rst} {
			l = append(l, invalid{api.Ins{Op: o, A: output(1), N: n}, api.ErrArg}, invalid{api.Ins{Op: o, A: output(n)}, api.ErrRange}, invalid{api.Ins{Op: o, A: api.Addr{Space: n}}, api.ErrKind})
		}
		for _, o := range []int{api.Rise, api.Fall} {
			l = append(l, invalid{api.Ins{Op: o, N: n}, api.ErrRange}, invalid{api.Ins{Op: o, A: memory(n), N: 1}, api.ErrRange}, invalid{api.Ins{Op: o, A: api.Addr{Space: n}}, api.ErrKind})
		}
	}
	for _, o := range []int{api.St, api.Stn, api.Set, api.Rst} {
		l = append(l, invalid{api.Ins{Op: o, A: input(0)}, api.ErrKind}, invalid{api.Ins{Op: o, A: input(2)}, api.ErrRange})
	}
	return l
}

func TestCheckInvalidInstruction(t *testing.T) {
	code := assembled("ld I0, push, push, orp, ld I0, andp, end")
	for at := range code {
		for _, c := range invalidAt(at) {
			mustFail(t, api.Program{Size: small, Code: replaced(code, at, c.x)}, at, c.e)
		}
	}
}

func TestCheckFirstInvalidInstruction(t *testing.T) {
	l := invalidAt(2)
	for i, c := range l {
		other := l[(i+17)%len(l)]
		code := []api.Ins{{}, {}, c.x, other.x, {}, other.x, {Op: api.End}}
		mustFail(t, api.Program{Size: small, Code: code}, 2, c.e)
	}
}

// TestCheckJumpOfItsProgram tells that the index of a jmpc and the number of
// instructions decide which targets it can have.
func TestCheckJumpOfItsProgram(t *testing.T) {
	for n := 1; n <= 6; n++ {
		for at := range n {
			for target := range n + 2 {
				p := api.Program{Size: small, Code: replaced(plain(n), at, jump(target))}
				switch {
				case target >= n:
					mustFail(t, p, at, api.ErrRange)
				case target <= at:
					mustFail(t, p, at, api.ErrOrder)
				default:
					mustPass(t, p, 0)
				}
			}
		}
	}
}

// Check 4: the depths.

func TestCheckStack(t *testing.T) {
	for _, c := range []struct {
		list string
		at   int
	}{
		{"andp, end", 0}, {"orp, end", 0},
		{"orp, push, end", 0}, {"ld I0, andp, end", 1},
		{"push, andp, andp, end", 2}, {"push, push, orp, andp, orp, ld I0, end", 4},
		{"jmpc 2, orp, end", 1}, {"end, andp, end", 1}, {"andp, andp, end", 0},
	} {
		mustFail(t, program(c.list), c.at, api.ErrStack)
	}
}

func TestCheckDeep(t *testing.T) {
	end := assembled("end")
	for pops := range 65 {
		code := joined(many(64, api.Push), many(pops, api.Orp), many(pops, api.Push))
		mustPass(t, api.Program{Size: small, Code: joined(code, end)}, 64)
		mustFail(t, api.Program{Size: small, Code: joined(code, assembled("push"), end)}, 64+2*pops, api.ErrDeep)
		mustFail(t, api.Program{Size: small, Code: joined(code, assembled("push"), many(65, api.Andp), end)}, 64+2*pops, api.ErrDeep)
	}
	mustFail(t, api.Program{Size: small, Code: joined(end, many(65, api.Push), end)}, 65, api.ErrDeep)
	mustFail(t, api.Program{Size: small, Code: joined(many(66, api.Push), many(80, api.Orp), end)}, 64, api.ErrDeep)
	mustFail(t, api.Program{Size: small, Code: joined(assembled("orp"), many(65, api.Push), end)}, 0, api.ErrStack)
}

// Check 5: the jumps.

func TestCheckJumpAtDepthZero(t *testing.T) {
	for _, c := range []struct {
		list  string
		depth int
	}{
		{"jmpc 1, end", 0},
		{"jmpc 3, push, andp, end", 1},
		{"jmpc 1, push, end", 1},
		{"jmpc 4, jmpc 5, push, orp, ld I0, push, end", 1},
		{"push, andp, jmpc 3, end", 1},
		{"push, orp, jmpc 6, push, ld I1, andp, push, orp, end", 1},
		{"jmpc 5, jmpc 5, push, ld I1, orp, jmpc 6, end", 1},
	} {
		mustPass(t, program(c.list), c.depth)
	}
}

func TestCheckJumpAtAnotherDepth(t *testing.T) {
	for _, c := range []struct {
		list string
		at   int
	}{
		// The depth before the jmpc is not 0.
		{"push, jmpc 3, andp, end", 1},
		{"push, jmpc 4, orp, ld I0, end", 1},
		{"push, push, jmpc 5, andp, orp, end", 2},
		// The depth before the target is not 0.
		{"jmpc 2, push, andp, end", 0},
		{"jmpc 2, push, end", 0},
		{"ld I0, jmpc 4, push, push, orp, andp, end", 1},
		{"ld I0, jmpc 5, push, push, orp, andp, end", 1},
		// Both are not 0, and equal or not.
		{"push, jmpc 2, end", 1},
		{"push, jmpc 2, andp, end", 1},
		{"push, jmpc 3, push, orp, orp, end", 1},
		{"push, ld I0, jmpc 5, andp, push, end", 2},
		// The last instruction that can be a jmpc.
		{"push, ld I0, jmpc 3, end", 2},
	} {
		mustFail(t, program(c.list), c.at, api.ErrState)
	}
}

// TestCheckJumpAtEveryDepth has a jmpc at each depth, to each depth.
func TestCheckJumpAtEveryDepth(t *testing.T) {
	for from := range 65 {
		for to := range 65 {
			code := joined(many(from, api.Push), assembled("jmpc 0"), many(from, api.Orp), many(to, api.Push))
			code[from].N = len(code)
			p := api.Program{Size: small, Code: joined(code, assembled("ld I0, end"))}
			if from == 0 && to == 0 {
				mustPass(t, p, 0)
			} else {
				mustFail(t, p, from, api.ErrState)
			}
		}
	}
}

func TestCheckFirstFailingJump(t *testing.T) {
	for _, c := range []struct {
		list string
		at   int
	}{
		{"jmpc 2, push, jmpc 4, andp, end", 0},
		{"jmpc 1, jmpc 3, push, jmpc 5, orp, end", 1},
		{"jmpc 6, push, jmpc 6, jmpc 6, jmpc 6, orp, end", 2},
		{"push, jmpc 4, jmpc 3, andp, jmpc 6, push, end", 1},
		{"jmpc 6, jmpc 4, jmpc 5, push, orp, push, end", 0},
	} {
		mustFail(t, program(c.list), c.at, api.ErrState)
	}
}

// TestCheckOnlyJumpsNeedDepthZero puts every other opcode at depth 1.
func TestCheckOnlyJumpsNeedDepthZero(t *testing.T) {
	for _, s := range []string{"ld I0", "ldn Q0", "and M0", "andn I1", "or Q1", "orn M1", "rise I0 1", "fall I1 2", "andp", "orp", "st Q0", "stn M0", "set Q1", "rst M3", "end"} {
		mustPass(t, program("push, "+s+", end"), 1)
	}
	mustPass(t, program("push, push, end"), 2)
}

// Check 6: the last instruction.

func TestCheckLastInstruction(t *testing.T) {
	for _, s := range []string{"ld I0", "ldn Q0", "and M0", "andn I1", "or Q1", "orn M1", "rise I0 1", "fall I1 2", "push", "andp", "orp", "st Q0", "stn M0", "set Q1", "rst M3"} {
		mustFail(t, program("push, "+s), 2, api.ErrShort)
		mustFail(t, program("end, push, end, "+s), 4, api.ErrShort)
		mustPass(t, program("push, "+s+", end"), 1+strings.Count(s, "push"))
	}
	mustFail(t, program("ld I0"), 1, api.ErrShort)
	mustFail(t, program("push"), 1, api.ErrShort)
	mustFail(t, program("jmpc 1, ld I0"), 2, api.ErrShort)
	mustFail(t, api.Program{Size: small, Code: many(64, api.Push)}, 64, api.ErrShort)
}

func TestCheckEndInTheMiddle(t *testing.T) {
	mustPass(t, program("end, ld I0, end"), 0)
	mustPass(t, program("push, end, push, end, orp, end"), 2)
	mustPass(t, program("jmpc 2, end, ld I0, end"), 0)
	mustFail(t, program("end, ld I0"), 2, api.ErrShort)
	mustFail(t, program("end, end, push"), 3, api.ErrShort)
}

// The order of the checks.

// TestCheckOrder fails two checks in each program, the one that comes first at
// a lower and at a greater index than the other.
func TestCheckOrder(t *testing.T) {
	bad := api.Size{I: 2, Q: 2, M: 2, E: -1}
	deep := strings.Repeat("push, ", 65)
	for _, c := range []struct {
		p  api.Program
		at int
		e  api.Errno
	}{
		// 1 and 2, 1 and each of the others.
		{api.Program{Size: bad}, 0, api.ErrRange},
		{api.Program{Size: bad, Code: plain(65536)}, 0, api.ErrRange},
		{api.Program{Size: bad, Code: []api.Ins{{}, {Op: 17}, {Op: api.End}}}, 0, api.ErrRange},
		{api.Program{Size: bad, Code: []api.Ins{{Op: 17}, {Op: api.End}}}, 0, api.ErrRange},
		{api.Program{Size: bad, Code: []api.Ins{{Op: api.End, N: 1}}}, 0, api.ErrRange},
		{api.Program{Size: bad, Code: assembled("orp, end")}, 0, api.ErrRange},
		{api.Program{Size: bad, Code: assembled("ld I0, orp, end")}, 0, api.ErrRange},
		{api.Program{Size: bad, Code: assembled("ld I0, push, jmpc 3, end")}, 0, api.ErrRange},
		{api.Program{Size: bad, Code: assembled("ld I0, ld I0")}, 0, api.ErrRange},
		// 2 and each of the later ones.
		{api.Program{Size: small, Code: replaced(plain(65536), 0, api.Ins{Op: 17})}, 0, api.ErrLong},
		{api.Program{Size: small, Code: replaced(plain(65536), 9, api.Ins{Op: 17})}, 0, api.ErrLong},
		{api.Program{Size: small, Code: replaced(plain(65536), 9, api.Ins{Op: api.Orp})}, 0, api.ErrLong},
		{api.Program{Size: small, Code: joined(assembled("push, jmpc 7"), plain(65536))}, 0, api.ErrLong},
		{api.Program{Size: small, Code: many(65536, api.Ld)}, 0, api.ErrLong},
		// 3 and 4.
		{program("ld I2, orp, end"), 0, api.ErrRange},
		{program("orp, ld I2, end"), 1, api.ErrRange},
		{program("andp, ld I0, jmpc 1, end"), 2, api.ErrOrder},
		{program("andp, ld I0, jmpc 4, end"), 2, api.ErrRange},
		{program(deep + "set I0, end"), 65, api.ErrKind},
		{api.Program{Size: small, Code: []api.Ins{{Op: api.Andp, N: 1}, {Op: api.End}}}, 0, api.ErrArg},
		{api.Program{Size: small, Code: joined(many(64, api.Push), []api.Ins{{Op: api.Push, N: 1}, {Op: api.End}})}, 64, api.ErrArg},
		// 3 and 5.
		{program("push, jmpc 3, rise I0 5, end"), 2, api.ErrRange},
		{program("push, jmpc 1, end"), 1, api.ErrOrder},
		{program("push, jmpc 3, end"), 1, api.ErrRange},
		{program("ld I2, push, jmpc 3, end"), 0, api.ErrRange},
		{api.Program{Size: small, Code: []api.Ins{{Op: api.Push}, {Op: api.Jmpc, A: input(1), N: 2}, {Op: api.End}}}, 1, api.ErrArg},
		// 3 and 6.
		{program("ld I0, ld I2"), 1, api.ErrRange},
		{program("ld M4, ld I0"), 0, api.ErrRange},
		{program("ld I0, jmpc 1"), 1, api.ErrOrder},
		{program("jmpc 0"), 0, api.ErrOrder},
		{program("jmpc 1"), 0, api.ErrRange},
		{api.Program{Size: small, Code: []api.Ins{{Op: 17}}}, 0, api.ErrKind},
		// 4 and 5.
		{program("push, jmpc 3, orp, orp, end"), 3, api.ErrStack},
		{program("orp, push, jmpc 3, end"), 0, api.ErrStack},
		{program("jmpc 2, push, orp, orp, end"), 3, api.ErrStack},
		{program("jmpc 2, orp, push, end"), 1, api.ErrStack},
		{program("push, jmpc 2, " + deep + "end"), 65, api.ErrDeep},
		{program(deep + "jmpc 66, end"), 64, api.ErrDeep},
		// 4 and 6.
		{program("orp"), 0, api.ErrStack},
		{program("ld I0, andp"), 1, api.ErrStack},
		{program("orp, ld I0"), 0, api.ErrStack},
		{program(deep + "ld I0"), 64, api.ErrDeep},
		{api.Program{Size: small, Code: many(65, api.Push)}, 64, api.ErrDeep},
		// 5 and 6.
		{program("push, jmpc 2, ld I0"), 1, api.ErrState},
		{program("jmpc 2, push, push"), 0, api.ErrState},
		{program("push, ld I0, jmpc 3, orp"), 2, api.ErrState},
	} {
		mustFail(t, c.p, c.at, c.e)
	}
}

// TestCheckEveryOrder fails several checks at once, which are then repaired one
// by one.
func TestCheckEveryOrder(t *testing.T) {
	long := joined(assembled("push, jmpc 2, ld I2, orp, orp"), many(65540, api.Ld))
	p := api.Program{Size: api.Size{I: 2, M: math.MinInt}, Code: long}
	mustFail(t, p, 0, api.ErrRange)
	p.Size.M = 0
	mustFail(t, p, 0, api.ErrLong)
	p.Code = p.Code[:0]
	mustFail(t, p, 0, api.ErrNone)
	p.Code = long[:7]
	mustFail(t, p, 2, api.ErrRange)
	p.Code[2].A.N = 1
	mustFail(t, p, 4, api.ErrStack)
	p.Code[4] = api.Ins{}
	mustFail(t, p, 1, api.ErrState)
	p.Code[1] = api.Ins{}
	mustFail(t, p, 7, api.ErrShort)
	p.Code[6] = api.Ins{Op: api.End}
	mustPass(t, p, 1)
}

// TestConcurrentCalls calls every function on one program in several
// goroutines.
func TestConcurrentCalls(t *testing.T) {
	p := program("ld I0, jmpc 6, push, ld I1, orp, jmpc 7, st Q0, end")
	var all sync.WaitGroup
	for range 8 {
		all.Go(func() {
			for range 100 {
				depth, at, e := Check(p)
				l, _, _ := Depths(p.Code)
				if depth != 1 || at != 8 || e != api.OK || !Valid(p) || !slices.Equal(l, []int{0, 0, 0, 1, 1, 0, 0, 0}) || !slices.Equal(Targets(p.Code), []int{6, 7}) {
					t.Error(depth, at, e, l)
				}
			}
		})
	}
	all.Wait()
}
