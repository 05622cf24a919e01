package stack

import (
	"math"
	"slices"
	"testing"

	"cosmac/api"
)

const size = 16

// numbers are addresses, and numbers that are none: a stack keeps all of them as they are.
var numbers = []int{
	0, 1, 2, 15, 16, 17, 255, 256, 512, 514, 600, 65535, 65536, 65537, math.MaxInt32, 1 << 31, 1 << 32, 1<<32 + 1, math.MaxInt - 1, math.MaxInt,
	-1, -2, -512, -65535, -65536, math.MinInt32, -1 << 32, math.MinInt + 1, math.MinInt,
}

// depths that no stack has.
var wrongDepths = []int{-1, -2, -16, -17, -1 << 32, math.MinInt + 1, math.MinInt, 17, 18, 32, 255, 256, 1 << 32, 1<<32 + 1, math.MaxInt - 1, math.MaxInt}

// of returns the stack that contains the numbers, the last one at the top.
func of(l ...int) Stack {
	s := Stack{Depth: len(l)}
	for i, a := range l {
		s.Slots[i] = a
	}
	return s
}

// counted returns n numbers, no two of which are equal and none of which is 0.
func counted(n int) []int {
	l := make([]int, n)
	for i := range l {
		l[i] = 512 + 7*i
	}
	return l
}

// model is a stack as a list.
type model []int

// push does what Push is to do.
func (m *model) push(a int) api.Errno {
	if len(*m) == size {
		return api.ErrOverflow
	}
	*m = append(*m, a)
	return api.OK
}

// pop does what Pop is to do.
func (m *model) pop() (int, api.Errno) {
	last := len(*m) - 1
	if last < 0 {
		return 0, api.ErrReturn
	}
	a := (*m)[last]
	*m = (*m)[:last]
	return a, api.OK
}

// checkPush compares the results of Push with the wanted ones.
func checkPush(t *testing.T, s Stack, a int, want Stack, wantErr api.Errno) {
	t.Helper()
	if got, e := Push(s, a); got != want || e != wantErr {
		t.Errorf("Push(%v, %d) = %v, %d, want %v, %d", s, a, got, e, want, wantErr)
	}
}

// checkPop compares the results of Pop with the wanted ones.
func checkPop(t *testing.T, s Stack, want Stack, wantTop int, wantErr api.Errno) {
	t.Helper()
	if got, top, e := Pop(s); got != want || top != wantTop || e != wantErr {
		t.Errorf("Pop(%v) = %v, %d, %d, want %v, %d, %d", s, got, top, e, want, wantTop, wantErr)
	}
}

// P17.1, P17.2: the chapter's example.
func TestExample(t *testing.T) {
	s, first := Push(Stack{}, 514)
	s, second := Push(s, 600)
	if first != api.OK || second != api.OK {
		t.Errorf("pushing: the errors are %d and %d", first, second)
	}
	s, top, third := Pop(s)
	s, below, fourth := Pop(s)
	if top != 600 || third != api.OK || below != 514 || fourth != api.OK {
		t.Errorf("popping returns %d (error %d), and then %d (error %d)", top, third, below, fourth)
	}
	if s != (Stack{}) {
		t.Errorf("the stack is %v at the end", s)
	}
}

// P17.1, P17.2: the errors and the number of slots, as the document writes them.
func TestNumbersOfDocument(t *testing.T) {
	if _, e := Push(of(counted(size)...), 1); e != 2 {
		t.Errorf("the error of a full stack is %d, want 2", e)
	}
	if _, _, e := Pop(Stack{}); e != 3 {
		t.Errorf("the error of an empty stack is %d, want 3", e)
	}
	if n := len(Stack{}.Slots); n != size {
		t.Errorf("a stack has %d slots, want %d", n, size)
	}
}

// P17.1: the number is above the others, at all depths at which there is room.
func TestPush(t *testing.T) {
	for n := range size {
		l := counted(n)
		for _, a := range numbers {
			checkPush(t, of(l...), a, of(append(slices.Clone(l), a)...), api.OK)
		}
	}
}

// P17.1: a full stack is returned as it is, also if the number is 0 or the one at the top.
func TestPushFull(t *testing.T) {
	for _, s := range []Stack{of(counted(size)...), {Depth: size}, of(slices.Repeat([]int{-1}, size)...)} {
		checkPush(t, s, s.Slots[size-1], s, api.ErrOverflow)
		for _, a := range numbers {
			checkPush(t, s, a, s, api.ErrOverflow)
		}
	}
}

// P17.1: the stack is full after 16 numbers, not before and not after a failure.
func TestPushUntilFull(t *testing.T) {
	var s Stack
	for i := range 40 {
		after, e := Push(s, 1000+i)
		want := api.OK
		if i >= size {
			want = api.ErrOverflow
		}
		if e != want {
			t.Errorf("after %d numbers the error is %d, want %d", i, e, want)
		}
		if after.Depth != min(i+1, size) {
			t.Errorf("after pushing %d numbers the Depth is %d", i+1, after.Depth)
		}
		s = after
	}
	for i, a := range s.Slots {
		if a != 1000+i {
			t.Errorf("the slot %d is %d", i, a)
		}
	}
}

// P17.2: the number at the top is returned and removed, and its slot is 0 again; all depths.
func TestPop(t *testing.T) {
	for n := range size {
		l := counted(n)
		for _, a := range numbers {
			checkPop(t, of(append(slices.Clone(l), a)...), of(l...), a, api.OK)
		}
	}
}

// P17.2: an empty stack is returned as it is.
func TestPopEmpty(t *testing.T) {
	checkPop(t, Stack{}, Stack{}, 0, api.ErrReturn)
	emptied, _, _ := Pop(of(600))
	checkPop(t, emptied, Stack{}, 0, api.ErrReturn)
}

// P17.2: numbers 0 are numbers too: they do not make a stack empty.
func TestPopZeros(t *testing.T) {
	s := Stack{Depth: size}
	for n := size; n > 0; n-- {
		after, top, e := Pop(s)
		if top != 0 || e != api.OK || after != (Stack{Depth: n - 1}) {
			t.Errorf("Pop(%v) = %v, %d, %d", s, after, top, e)
		}
		s = after
	}
	checkPop(t, s, Stack{}, 0, api.ErrReturn)
}

// P17.2: numbers are popped in the opposite order, until none is left.
func TestPopUntilEmpty(t *testing.T) {
	l := counted(size)
	s := of(l...)
	for i := range size {
		after, top, e := Pop(s)
		if want := l[size-1-i]; top != want || e != api.OK {
			t.Errorf("the number %d from the top is %d (error %d), want %d", i, top, e, want)
		}
		s = after
	}
	for range 3 {
		checkPop(t, s, Stack{}, 0, api.ErrReturn)
	}
}

// P17.1, P17.2: Pop undoes Push, for all depths with room and all numbers.
func TestPopUndoesPush(t *testing.T) {
	for n := range size {
		s := of(counted(n)...)
		for _, a := range numbers {
			pushed, _ := Push(s, a)
			checkPop(t, pushed, s, a, api.OK)
		}
	}
}

// P17.3: the numbers in order, for all depths; numbers 0 are listed too.
func TestList(t *testing.T) {
	for n := range size + 1 {
		for _, want := range [][]int{counted(n), make([]int, n), slices.Repeat([]int{math.MinInt}, n)} {
			if got := List(of(want...)); !slices.Equal(got, want) {
				t.Errorf("depth %d: List returns %v, want %v", n, got, want)
			}
		}
	}
	for i := 0; i+size <= len(numbers); i++ {
		want := numbers[i : i+size]
		if got := List(of(want...)); !slices.Equal(got, want) {
			t.Errorf("List returns %v, want %v", got, want)
		}
	}
}

// P17.3: the result is new memory, also where numbers are appended to it.
func TestListIndependence(t *testing.T) {
	for n := range size + 1 {
		s := of(counted(n)...)
		first, second := List(s), List(s)
		for i := range first {
			first[i] = -1
		}
		first = append(first, -2, -3)
		if s != of(counted(n)...) {
			t.Errorf("depth %d: the stack follows the result: %v", n, s)
		}
		if !slices.Equal(second, counted(n)) {
			t.Errorf("depth %d: the results share memory: %v, after the other one became %v", n, second, first)
		}
	}
}

// P17.1 to P17.3: the stack that is passed stays as it is, so that several stacks can be made of one.
func TestArgumentsStay(t *testing.T) {
	for n := range size + 1 {
		s := of(counted(n)...)
		first, _ := Push(s, 1)
		second, _ := Push(s, 2)
		Pop(s)
		List(s)
		if s != of(counted(n)...) {
			t.Errorf("depth %d: the stack is changed to %v", n, s)
		}
		if n < size && (first != of(append(counted(n), 1)...) || second != of(append(counted(n), 2)...)) {
			t.Errorf("depth %d: the stacks are %v and %v", n, first, second)
		}
	}
}

// P17.1 to P17.3: a long mixed run, in which all depths and both errors occur, compared with a list.
func TestRun(t *testing.T) {
	var s Stack
	var m model
	count := map[api.Errno]int{}
	state := uint64(1)
	for i := range 20000 {
		state = state*6364136223846793005 + 1442695040888963407
		// The share of pushes alternates, so that the stack is filled and emptied again and again.
		share := 2 + i/50%2*4
		before := s
		var top, wantTop int
		var e, want api.Errno
		if int(state>>33)%8 < share {
			s, e = Push(s, i)
			want = m.push(i)
		} else {
			s, top, e = Pop(s)
			wantTop, want = m.pop()
		}
		count[e]++
		if s != of(m...) || top != wantTop || e != want || !slices.Equal(List(s), m) {
			t.Fatalf("step %d: from %v to %v, number %d, error %d, want %v, %d, %d", i, before, s, top, e, m, wantTop, want)
		}
	}
	if count[api.OK] == 0 || count[api.ErrOverflow] == 0 || count[api.ErrReturn] == 0 {
		t.Errorf("the errors are not all in the run: %v", count)
	}
}

// The functions end without a panic for a Depth that no stack has; their results mean nothing, but List never has more numbers than there are slots.
func TestWrongDepths(t *testing.T) {
	for _, d := range wrongDepths {
		s := of(counted(size)...)
		s.Depth = d
		Push(s, 600)
		Pop(s)
		if l := List(s); len(l) > size {
			t.Errorf("Depth %d: List returns %d numbers", d, len(l))
		}
	}
}
