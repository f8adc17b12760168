package stack

import (
	"errors"
	"math"
	"runtime"
	"slices"
	"strconv"
	"testing"
	"weak"

	"busbar/api"
)

// noCapacities are ints that are no capacity; some would be one if they lost
// their sign or their upper bits.
var noCapacities = []int{
	0, -1, -2, -3, -64, -4095, -4096, -4097, 4097, 4098, 5000, 8192, 65535, 65536, 1<<16 + 1,
	1 << 31, 1<<31 + 1, 1 << 32, 1<<32 + 1, 1<<32 + 4096, -1 << 31, -1 << 32, -1<<32 + 1, -1<<32 + 4096,
	math.MinInt, math.MinInt + 1, math.MinInt + 4096, math.MaxInt - 1, math.MaxInt,
}

func mustNew[T any](t *testing.T, most int) *Stack[T] {
	t.Helper()
	s, e := New[T](most)
	if s == nil || e != api.OK {
		t.Fatalf("New(%d) = %v, %v", most, s, e)
	}
	return s
}

func mustPush[T any](t *testing.T, s *Stack[T], l ...T) {
	t.Helper()
	for _, x := range l {
		if e := s.Push(x); e != api.OK {
			t.Fatalf("Push(%v): %v", x, e)
		}
	}
}

func mustPop[T comparable](t *testing.T, s *Stack[T], l ...T) {
	t.Helper()
	for _, want := range l {
		if x, e := s.Pop(); x != want || e != api.OK {
			t.Fatalf("Pop() = %v, %v, want %v", x, e, want)
		}
	}
}

// mustHold checks the elements of a stack and the greatest depth it has had.
func mustHold[T comparable](t *testing.T, s *Stack[T], maxDepth int, want ...T) {
	t.Helper()
	if l := s.All(); !slices.Equal(l, want) {
		t.Fatalf("All() = %v, want %v", l, want)
	}
	if n := s.Depth(); n != len(want) {
		t.Fatalf("Depth() = %d, want %d", n, len(want))
	}
	if n := s.MaxDepth(); n != maxDepth {
		t.Fatalf("MaxDepth() = %d, want %d", n, maxDepth)
	}
}

// mustNotPush checks that Push returns ErrFull and that the stack still holds
// the elements it held.
func mustNotPush[T comparable](t *testing.T, s *Stack[T], x T) {
	t.Helper()
	l, maxDepth := s.All(), s.MaxDepth()
	if e := s.Push(x); e != api.ErrFull {
		t.Fatalf("Push(%v) on a full stack: %v", x, e)
	}
	mustHold(t, s, maxDepth, l...)
}

// mustNotPop checks that Pop returns ErrStack beside the zero value, and that
// the stack stays empty.
func mustNotPop[T comparable](t *testing.T, s *Stack[T]) {
	t.Helper()
	maxDepth := s.MaxDepth()
	var zero T
	if x, e := s.Pop(); x != zero || e != api.ErrStack {
		t.Fatalf("Pop() on an empty stack = %v, %v", x, e)
	}
	mustHold(t, s, maxDepth)
}

// upTo returns the numbers 1 to n, of which none is the zero value.
func upTo(n int) []int {
	l := make([]int, n)
	for i := range l {
		l[i] = i + 1
	}
	return l
}

// P5.1

func TestNewIsEmpty(t *testing.T) {
	for _, most := range []int{1, 2, 3, 64, 4095, 4096} {
		mustHold(t, mustNew[int](t, most), 0)
		mustNotPop(t, mustNew[string](t, most))
	}
}

func TestNewCapacity(t *testing.T) {
	for _, most := range []int{1, 2, 3, 4, 5, 8, 9, 63, 64, 65, 255, 256, 257, 4095, 4096} {
		s := mustNew[int](t, most)
		l := upTo(most)
		mustPush(t, s, l...)
		mustHold(t, s, most, l...)
		mustNotPush(t, s, -1)
		slices.Reverse(l)
		mustPop(t, s, l...)
		mustNotPop(t, s)
	}
}

func TestNewEveryCapacity(t *testing.T) {
	for most := 1; most <= 4096; most++ {
		s := mustNew[struct{}](t, most)
		pushed := 0
		for s.Push(struct{}{}) == api.OK {
			pushed++
		}
		if pushed != most {
			t.Fatalf("a stack with capacity %d took %d elements", most, pushed)
		}
	}
}

func mustNotNew[T any](t *testing.T, most int) {
	t.Helper()
	if s, e := New[T](most); s != nil || e != api.ErrRange {
		t.Errorf("New(%d) = %v, %v", most, s, e)
	}
}

func TestNewCapacityOutOfRange(t *testing.T) {
	for _, most := range noCapacities {
		mustNotNew[int](t, most)
		mustNotNew[bool](t, most)
		mustNotNew[struct{}](t, most)
		mustNotNew[[]string](t, most)
	}
}

func TestPushOnFullStack(t *testing.T) {
	s := mustNew[string](t, 2)
	mustPush(t, s, "a", "b")
	for _, x := range []string{"c", "", "a", "d"} {
		mustNotPush(t, s, x)
	}
	mustHold(t, s, 2, "a", "b")
	mustPop(t, s, "b", "a")
	mustNotPop(t, s)
}

func TestPushOnStackThatWasFull(t *testing.T) {
	for _, most := range []int{1, 2, 3, 64, 4096} {
		s := mustNew[int](t, most)
		l := upTo(most)
		mustPush(t, s, l...)
		for i := range 3 {
			mustNotPush(t, s, -1)
			mustPop(t, s, l[most-1])
			mustHold(t, s, most, l[:most-1]...)
			l[most-1] = -10 - i
			mustPush(t, s, l[most-1])
			mustHold(t, s, most, l...)
		}
		mustNotPush(t, s, -1)
	}
}

func TestPushOnStackThatWasFullAndEmptied(t *testing.T) {
	s := mustNew[int](t, 3)
	for i := range 4 {
		l := []int{10 * i, 10*i + 1, 10*i + 2}
		mustPush(t, s, l...)
		mustNotPush(t, s, -1)
		mustPop(t, s, l[2], l[1], l[0])
		mustNotPop(t, s)
	}
}

func TestPopOnEmptyStack(t *testing.T) {
	s := mustNew[int](t, 2)
	for i := range 3 {
		for range 3 {
			mustNotPop(t, s)
		}
		mustPush(t, s, i+5)
		mustPop(t, s, i+5)
	}
	// Failed calls of Pop leave as much room as there was.
	mustPush(t, s, 1, 2)
	mustNotPush(t, s, 3)
	mustHold(t, s, 2, 1, 2)
}

// checkZero checks that x, which no zero value equals, is popped once, and
// that isZero holds for what Pop returns beside an error.
func checkZero[T any](t *testing.T, x T, isZero func(T) bool) {
	t.Helper()
	s := mustNew[T](t, 2)
	for range 2 {
		if y, e := s.Pop(); !isZero(y) || e != api.ErrStack {
			t.Errorf("Pop() on an empty stack = %v, %v", y, e)
		}
		mustPush(t, s, x, x)
		for range 2 {
			if y, e := s.Pop(); isZero(y) || e != api.OK {
				t.Errorf("Pop() = %v, %v, want %v", y, e, x)
			}
		}
	}
	var none *Stack[T]
	if y, e := none.Pop(); !isZero(y) || e != api.ErrNil {
		t.Errorf("Pop() on nil = %v, %v", y, e)
	}
	if e := none.Push(x); e != api.ErrNil {
		t.Errorf("Push(%v) on nil: %v", x, e)
	}
}

func equals[T comparable](zero T) func(T) bool { return func(x T) bool { return x == zero } }

func TestPopReturnsZeroValueBesideError(t *testing.T) {
	checkZero(t, 7, equals(0))
	checkZero(t, byte(255), equals(byte(0)))
	checkZero(t, true, equals(false))
	checkZero(t, 0.5, equals(0.0))
	checkZero(t, "text", equals(""))
	checkZero(t, 'x', equals('\x00'))
	checkZero(t, [2]int{0, 1}, equals([2]int{}))
	checkZero(t, api.Ins{Op: api.Jmpc, N: 7}, equals(api.Ins{}))
	checkZero(t, &api.Addr{}, equals[*api.Addr](nil))
	checkZero(t, any("x"), equals[any](nil))
	checkZero(t, error(api.ErrFull), func(e error) bool { return e == nil })
	checkZero(t, []int{}, func(l []int) bool { return l == nil })
	checkZero(t, map[string]int{}, func(m map[string]int) bool { return m == nil })
	checkZero(t, func() {}, func(f func()) bool { return f == nil })
}

func TestClearOnEmptyStack(t *testing.T) {
	s := mustNew[int](t, 2)
	for range 3 {
		s.Clear()
		mustHold(t, s, 0)
		mustNotPop(t, s)
	}
	mustPush(t, s, 1, 2)
	mustNotPush(t, s, 3)
	mustHold(t, s, 2, 1, 2)
}

func TestClearOnFullStack(t *testing.T) {
	for _, most := range []int{1, 2, 64, 4096} {
		s := mustNew[int](t, most)
		for i := range 3 {
			l := upTo(most)
			l[0] = i
			mustPush(t, s, l...)
			mustNotPush(t, s, -1)
			s.Clear()
			mustHold(t, s, most)
			mustNotPop(t, s)
		}
	}
}

func TestClearBetweenPushes(t *testing.T) {
	s := mustNew[string](t, 3)
	mustPush(t, s, "a", "b")
	s.Clear()
	mustHold(t, s, 2)
	mustPush(t, s, "c")
	mustHold(t, s, 2, "c")
	mustPop(t, s, "c")
	mustNotPop(t, s)
	mustPush(t, s, "d", "e", "f")
	mustHold(t, s, 3, "d", "e", "f")
	mustNotPush(t, s, "g")
	mustPop(t, s, "f")
	s.Clear()
	s.Clear()
	mustHold(t, s, 3)
	mustPush(t, s, "h")
	mustPop(t, s, "h")
	mustNotPop(t, s)
}

// P5.2

func TestMaxDepth(t *testing.T) {
	s := mustNew[int](t, 5)
	for _, c := range []struct {
		pushes, pops, depth, maxDepth int
	}{
		{0, 0, 0, 0}, {1, 0, 1, 1}, {0, 1, 0, 1}, {1, 0, 1, 1}, {1, 0, 2, 2}, {1, 2, 1, 3}, {1, 0, 2, 3},
		{1, 0, 3, 3}, {1, 0, 4, 4}, {0, 4, 0, 4}, {4, 0, 4, 4}, {1, 0, 5, 5}, {0, 5, 0, 5}, {2, 1, 1, 5},
	} {
		for range c.pushes {
			mustPush(t, s, 9)
		}
		for range c.pops {
			mustPop(t, s, 9)
		}
		if s.Depth() != c.depth || s.MaxDepth() != c.maxDepth {
			t.Fatalf("after %v: Depth() = %d, MaxDepth() = %d", c, s.Depth(), s.MaxDepth())
		}
	}
}

func TestMaxDepthStaysBehindClear(t *testing.T) {
	s := mustNew[int](t, 4)
	mustPush(t, s, 1, 2, 3)
	s.Clear()
	mustHold(t, s, 3)
	mustPush(t, s, 4, 5)
	mustHold(t, s, 3, 4, 5)
	s.Clear()
	mustPush(t, s, 1, 2, 3, 4)
	mustHold(t, s, 4, 1, 2, 3, 4)
	s.Clear()
	mustHold(t, s, 4)
}

func TestMaxDepthCountsNoFailedCall(t *testing.T) {
	s := mustNew[int](t, 2)
	mustNotPop(t, s)
	mustPush(t, s, 1, 2)
	mustNotPush(t, s, 3)
	mustNotPush(t, s, 4)
	mustHold(t, s, 2, 1, 2)
}

func TestAllIsOrderedAsPushed(t *testing.T) {
	s := mustNew[string](t, 64)
	var want []string
	for i := range 64 {
		x := strconv.Itoa(i * 7 % 10)
		mustPush(t, s, x)
		want = append(want, x)
		mustHold(t, s, i+1, want...)
	}
}

func TestAllOnEmptyStack(t *testing.T) {
	s := mustNew[int](t, 3)
	mustHold(t, s, 0)
	mustPush(t, s, 1)
	mustPop(t, s, 1)
	mustHold(t, s, 1)
	mustPush(t, s, 1, 2)
	s.Clear()
	mustHold(t, s, 2)
}

// spoil changes all the memory of a slice, also beyond its length.
func spoil(l []int) {
	l = l[:cap(l)]
	for i := range l {
		l[i] = -1
	}
}

func TestAllIsNotReachedByLaterCalls(t *testing.T) {
	s := mustNew[int](t, 5)
	mustPush(t, s, 1, 2, 3)
	l := s.All()
	check := func(call string) {
		t.Helper()
		if !slices.Equal(l, []int{1, 2, 3}) {
			t.Fatalf("%s changed an earlier result of All to %v", call, l)
		}
	}
	mustPush(t, s, 4)
	check("Push")
	mustPop(t, s, 4, 3, 2, 1)
	check("Pop")
	mustPush(t, s, 5, 6, 7, 8, 9)
	check("Push after Pop")
	s.Clear()
	check("Clear")
	mustPush(t, s, 10, 11, 12)
	check("Push after Clear")
	spoil(s.All())
	check("a change of a later result")
}

func TestAllMayBeChanged(t *testing.T) {
	for _, depth := range []int{1, 2, 3, 4, 5, 7, 8} {
		s := mustNew[int](t, 8)
		want := upTo(depth)
		mustPush(t, s, want...)
		l := s.All()
		spoil(l)
		mustHold(t, s, depth, want...)
		_ = append(l[:0], -2, -3)
		_ = append(l, -4)
		mustHold(t, s, depth, want...)
		mustPop(t, s, depth)
		if depth < 8 {
			mustPush(t, s, 20, 21)
			spoil(l)
			mustPop(t, s, 21, 20)
		}
		mustHold(t, s, s.MaxDepth(), want[:depth-1]...)
	}
}

func TestAllOfEmptyStackMayBeAppendedTo(t *testing.T) {
	s := mustNew[int](t, 4)
	mustPush(t, s, 1, 2, 3)
	mustPop(t, s, 3, 2, 1)
	l := s.All()
	mustPush(t, s, 4, 5)
	_ = append(l, -1, -2)
	mustHold(t, s, 3, 4, 5)
}

// P5.3

func TestPopReversesPush(t *testing.T) {
	for most := 1; most <= 40; most++ {
		s := mustNew[int](t, most)
		l := upTo(most)
		mustPush(t, s, l...)
		slices.Reverse(l)
		mustPop(t, s, l...)
		mustNotPop(t, s)
	}
}

func TestExample(t *testing.T) {
	s := mustNew[int](t, 2)
	mustPush(t, s, 1, 2)
	mustNotPush(t, s, 3)
	mustPop(t, s, 2, 1)
	mustNotPop(t, s)
}

func TestElementsThatAreZeroOrEqual(t *testing.T) {
	s := mustNew[int](t, 6)
	mustPush(t, s, 0, 0, 5, 5, 0)
	mustHold(t, s, 5, 0, 0, 5, 5, 0)
	mustPop(t, s, 0, 5, 5, 0, 0)
	mustNotPop(t, s)
}

// model is what a stack of ints must hold, and the calls that led there.
type model struct {
	most, maxDepth, next int
	elements             []int
	calls                string
}

// call makes a call of the method with the given letter on the stack and
// checks it against the model.
func (m *model) call(t *testing.T, s *Stack[int], method byte) {
	t.Helper()
	m.calls += string(method)
	switch depth := len(m.elements); method {
	case 'u':
		m.next++
		want := api.ErrFull
		if depth < m.most {
			want = api.OK
			m.elements = append(slices.Clone(m.elements), m.next)
			m.maxDepth = max(m.maxDepth, depth+1)
		}
		if e := s.Push(m.next); e != want {
			t.Fatalf("%d, %s: Push: %v, want %v", m.most, m.calls, e, want)
		}
	case 'o':
		x, want := 0, api.ErrStack
		if depth > 0 {
			x, want = m.elements[depth-1], api.OK
			m.elements = slices.Clone(m.elements[:depth-1])
		}
		if y, e := s.Pop(); y != x || e != want {
			t.Fatalf("%d, %s: Pop() = %d, %v, want %d, %v", m.most, m.calls, y, e, x, want)
		}
	case 'c':
		m.elements = nil
		s.Clear()
	}
	if !slices.Equal(s.All(), m.elements) || s.Depth() != len(m.elements) || s.MaxDepth() != m.maxDepth {
		t.Fatalf("%d, %s: %v, %d, %d, want %v, %d", m.most, m.calls, s.All(), s.Depth(), s.MaxDepth(), m.elements, m.maxDepth)
	}
}

// TestAllSequences tries each sequence of eight calls on stacks of small
// capacities.
func TestAllSequences(t *testing.T) {
	const methods = "uoc"
	const length = 8
	for most := 1; most <= 5; most++ {
		for n := range 3 * 3 * 3 * 3 * 3 * 3 * 3 * 3 {
			s := mustNew[int](t, most)
			m := &model{most: most}
			for range length {
				m.call(t, s, methods[n%3])
				n /= 3
			}
		}
	}
}

// TestLongSequence goes up and down between the ends of a stack, by steps of
// different lengths.
func TestLongSequence(t *testing.T) {
	for _, most := range []int{1, 2, 7, 64} {
		s := mustNew[int](t, most)
		m := &model{most: most}
		for i := range 1500 {
			method := byte('u')
			if i%29 >= 15 || i*i%7 == 2 {
				method = 'o'
			}
			if i%211 == 210 {
				method = 'c'
			}
			m.call(t, s, method)
			m.calls = "..."
		}
	}
}

// Objects and element types

func TestTwoStacksInTurn(t *testing.T) {
	a, b := mustNew[int](t, 2), mustNew[int](t, 3)
	mustPush(t, a, 1)
	mustPush(t, b, 10)
	mustPush(t, a, 2)
	mustHold(t, a, 2, 1, 2)
	mustHold(t, b, 1, 10)
	mustNotPush(t, a, 3)
	mustPush(t, b, 20, 30)
	mustNotPush(t, b, 40)
	mustPop(t, a, 2)
	mustHold(t, b, 3, 10, 20, 30)
	mustPop(t, b, 30)
	mustHold(t, a, 2, 1)
	a.Clear()
	mustHold(t, b, 3, 10, 20)
	mustNotPop(t, a)
	mustPush(t, a, 4)
	mustPop(t, b, 20, 10)
	mustNotPop(t, b)
	mustHold(t, a, 2, 4)
	mustHold(t, mustNew[int](t, 2), 0)
}

func TestStackOfStacks(t *testing.T) {
	s := mustNew[*Stack[string]](t, 2)
	inner := mustNew[string](t, 1)
	mustPush(t, inner, "a")
	mustPush(t, s, inner, nil)
	mustHold(t, s, 2, inner, nil)
	mustPop(t, s, nil, inner)
	mustHold(t, inner, 1, "a")
}

func TestElementsThatAreNotComparable(t *testing.T) {
	s := mustNew[[]int](t, 2)
	mustPush(t, s, []int{1, 2}, nil)
	if e := s.Push([]int{3}); e != api.ErrFull {
		t.Error(e)
	}
	if l := s.All(); len(l) != 2 || !slices.Equal(l[0], []int{1, 2}) || l[1] != nil {
		t.Error(l)
	}
	if x, e := s.Pop(); x != nil || e != api.OK {
		t.Error(x, e)
	}
	if x, e := s.Pop(); !slices.Equal(x, []int{1, 2}) || e != api.OK {
		t.Error(x, e)
	}
	f := mustNew[func() int](t, 1)
	mustPush(t, f, func() int { return 7 })
	if x, e := f.Pop(); x == nil || e != api.OK || x() != 7 {
		t.Error(e)
	}
	n := mustNew[float64](t, 1)
	mustPush(t, n, math.NaN())
	if x, e := n.Pop(); !math.IsNaN(x) || e != api.OK {
		t.Error(x, e)
	}
	i := mustNew[error](t, 2)
	mustPush(t, i, error(nil), error(api.ErrDeep))
	if x, e := i.Pop(); !errors.Is(x, api.ErrDeep) || e != api.OK {
		t.Error(x, e)
	}
	if x, e := i.Pop(); x != nil || e != api.OK {
		t.Error(x, e)
	}
}

func TestElementIsTheValueThatWasPushed(t *testing.T) {
	s := mustNew[[2]int](t, 2)
	x := [2]int{1, 2}
	mustPush(t, s, x)
	x[0] = 9
	mustPush(t, s, x)
	x[1] = 9
	mustPop(t, s, [2]int{9, 2}, [2]int{1, 2})
}

// pushed pushes a new object, to which the stack then holds the only pointer.
func pushed(t *testing.T, s *Stack[*api.Program]) weak.Pointer[api.Program] {
	t.Helper()
	x := &api.Program{Size: api.Size{I: 1}}
	mustPush(t, s, x)
	return weak.Make(x)
}

func TestRemovedElementsAreNotKept(t *testing.T) {
	s := mustNew[*api.Program](t, 3)
	kept, popped := pushed(t, s), pushed(t, s)
	if _, e := s.Pop(); e != api.OK {
		t.Fatal(e)
	}
	runtime.GC()
	if popped.Value() != nil {
		t.Error("a popped element is kept")
	}
	if kept.Value() == nil {
		t.Error("an element of the stack is not kept")
	}
	s.Clear()
	runtime.GC()
	if kept.Value() != nil {
		t.Error("an element is kept after Clear")
	}
	if s.Depth() != 0 {
		t.Error(s.Depth())
	}
}

// A nil stack

func checkNil[T any](t *testing.T, s *Stack[T], x T) {
	t.Helper()
	for range 2 {
		if e := s.Push(x); e != api.ErrNil {
			t.Errorf("Push(%v) on nil: %v", x, e)
		}
		if _, e := s.Pop(); e != api.ErrNil {
			t.Errorf("Pop() on nil: %v", e)
		}
		s.Clear()
		if s.Depth() != 0 || s.MaxDepth() != 0 || len(s.All()) != 0 {
			t.Errorf("on nil: %d, %d, %v", s.Depth(), s.MaxDepth(), s.All())
		}
	}
}

func TestNilStack(t *testing.T) {
	checkNil(t, nil, 7)
	checkNil(t, nil, true)
	checkNil(t, nil, "text")
	checkNil(t, nil, api.Addr{})
	checkNil(t, nil, []int{1})
	checkNil[error](t, nil, nil)
}

func TestStackThatNewRefused(t *testing.T) {
	for _, most := range noCapacities {
		s, _ := New[int](most)
		checkNil(t, s, 1)
	}
}

func TestNilStackBesideAnother(t *testing.T) {
	s := mustNew[int](t, 1)
	mustPush(t, s, 5)
	checkNil(t, (*Stack[int])(nil), 6)
	mustHold(t, s, 1, 5)
}
