package alu

import (
	"fmt"
	"math"
	"slices"
	"testing"

	"cosmac/api"
)

// Ops, as the chapter's tables list them.
var (
	operationOps = []int{
		api.SetNN, api.AddNN, api.Move, api.Or, api.And, api.Xor, api.Add, api.Sub, api.SubFrom, api.ShiftRight, api.ShiftLeft,
	}
	skipOps = []int{api.SkipEqNN, api.SkipNeNN, api.SkipEqVY, api.SkipNeVY}
)

// numbers of which none is an Op.
var wrongOps = []int{-1, -2, -8, -256, -1 << 32, math.MinInt, math.MinInt + 8, 52, 53, 64, 256, 264, 65544, 1<<32 + 8, 1<<32 + 5, math.MaxInt}

// bytes at which results, carries, borrows and shifted bits change.
var someBytes = []byte{0, 1, 2, 3, 15, 16, 85, 100, 127, 128, 129, 170, 200, 254, 255}

// profiles that differ in the two quirks that operations know, and in these only.
var fourProfiles = []api.Profile{
	{Level: api.Chip8},
	{Level: api.Chip8, ShiftVY: true},
	{Level: api.Chip8, LogicReset: true},
	{Level: api.Chip8, ShiftVY: true, LogicReset: true},
}

// pairs of registers: different ones, equal ones, and those in which VF is one or both of them.
var pairs = [][2]int{{1, 2}, {2, 1}, {0, 14}, {14, 0}, {3, 3}, {0, 0}, {15, 2}, {2, 15}, {15, 0}, {0, 15}, {15, 15}}

// registers returns 16 registers with numbers that differ from each other, none of which is 0 or 1.
func registers() [16]byte {
	var v [16]byte
	for i := range v {
		v[i] = byte(37 + 13*i)
	}
	return v
}

// with returns the registers with two of them replaced; the second one wins if both are the same.
func with(v [16]byte, x int, vx byte, y int, vy byte) [16]byte {
	v[x] = vx
	v[y] = vy
	return v
}

// bit returns 1 for true, and 0 for false.
func bit(b bool) int {
	if b {
		return 1
	}
	return 0
}

// wanted returns the result of an operation in the range from 0 to 255, and the flag, which is -1 if there is none, as the chapter's table defines them.
func wanted(op, vx, vy, nn int, p api.Profile) (result, flag int) {
	s, logicFlag := vx, -1
	if p.ShiftVY {
		s = vy
	}
	if p.LogicReset {
		logicFlag = 0
	}
	switch op {
	case api.SetNN:
		return nn, -1
	case api.AddNN:
		return (vx + nn) % 256, -1
	case api.Move:
		return vy, -1
	case api.Or:
		return vx + vy - vx&vy, logicFlag
	case api.And:
		return vx & vy, logicFlag
	case api.Xor:
		return vx + vy - 2*(vx&vy), logicFlag
	case api.Add:
		return (vx + vy) % 256, (vx + vy) / 256
	case api.Sub:
		return (256 + vx - vy) % 256, bit(vx >= vy)
	case api.SubFrom:
		return (256 + vy - vx) % 256, bit(vy >= vx)
	case api.ShiftRight:
		return s / 2, s % 2
	case api.ShiftLeft:
		return s * 2 % 256, s / 128
	}
	panic("no operation")
}

// checkDo compares the registers after an operation with those of the table.
func checkDo(t *testing.T, v [16]byte, in api.Instr, p api.Profile) {
	t.Helper()
	result, flag := wanted(in.Op, int(v[in.X]), int(v[in.Y]), in.NN, p)
	want := v
	want[in.X] = byte(result)
	if flag >= 0 {
		want[15] = byte(flag)
	}
	if got, ok := Do(v, in, p); got != want || !ok {
		t.Fatalf("Do(%v, %+v, %+v) = %v, %t, want %v", v, in, p, got, ok, want)
	}
}

// P18.1: the chapter's example.
func TestExample(t *testing.T) {
	v := [16]byte{1: 200, 2: 100}
	want := [16]byte{1: 44, 2: 100, 15: 1}
	if got, ok := Do(v, api.Instr{Op: api.Add, X: 1, Y: 2, Len: 2}, api.Profile{Level: api.Chip8}); got != want || !ok {
		t.Errorf("the registers are %v, %t, want %v", got, ok, want)
	}
}

// P18.1: results and flags that are written out. VX is V4, VY is V9, and VF is 7 before the operation.
func TestDoNamed(t *testing.T) {
	none := api.Profile{Level: api.Chip8}
	shift := api.Profile{Level: api.Chip8, ShiftVY: true}
	reset := api.Profile{Level: api.Chip8, LogicReset: true}
	for _, x := range []struct {
		op           int
		vx, vy       byte
		nn           int
		p            api.Profile
		result, flag byte
	}{
		{api.SetNN, 5, 6, 0, reset, 0, 7},
		{api.SetNN, 5, 6, 255, shift, 255, 7},
		{api.AddNN, 5, 6, 0, none, 5, 7},
		{api.AddNN, 255, 6, 1, none, 0, 7}, // no flag, also beyond 255
		{api.AddNN, 255, 6, 255, none, 254, 7},
		{api.Move, 5, 6, 9, reset, 6, 7},
		{api.Or, 0xA5, 0x0F, 0, none, 0xAF, 7},
		{api.And, 0xA5, 0x0F, 0, none, 0x05, 7},
		{api.Xor, 0xA5, 0x0F, 0, none, 0xAA, 7},
		{api.Or, 0xA5, 0x0F, 0, shift, 0xAF, 7},
		{api.Or, 0xA5, 0x0F, 0, reset, 0xAF, 0},
		{api.And, 0xA5, 0x0F, 0, reset, 0x05, 0},
		{api.Xor, 0xA5, 0x0F, 0, reset, 0xAA, 0},
		{api.Add, 200, 55, 0, none, 255, 0}, // the greatest sum without a carry
		{api.Add, 200, 56, 0, none, 0, 1},   // the least one with it
		{api.Add, 255, 255, 0, none, 254, 1},
		{api.Add, 0, 0, 0, none, 0, 0},
		{api.Sub, 5, 5, 0, none, 0, 1}, // equal numbers: there is no borrow
		{api.Sub, 5, 6, 0, none, 255, 0},
		{api.Sub, 6, 5, 0, none, 1, 1},
		{api.Sub, 0, 255, 0, none, 1, 0},
		{api.SubFrom, 5, 5, 0, none, 0, 1},
		{api.SubFrom, 5, 6, 0, none, 1, 1},
		{api.SubFrom, 6, 5, 0, none, 255, 0},
		{api.SubFrom, 255, 0, 0, none, 1, 0},
		{api.ShiftRight, 7, 8, 0, none, 3, 1},
		{api.ShiftRight, 7, 8, 0, reset, 3, 1},
		{api.ShiftRight, 7, 8, 0, shift, 4, 0},
		{api.ShiftRight, 255, 0, 0, none, 127, 1},
		{api.ShiftLeft, 127, 128, 0, none, 254, 0},
		{api.ShiftLeft, 127, 128, 0, shift, 0, 1},
		{api.ShiftLeft, 255, 0, 0, none, 254, 1},
	} {
		v := with(registers(), 4, x.vx, 9, x.vy)
		v[15] = 7
		want := v
		want[4], want[15] = x.result, x.flag
		in := api.Instr{Op: x.op, X: 4, Y: 9, NN: x.nn, Len: 2}
		if got, ok := Do(v, in, x.p); got != want || !ok {
			t.Errorf("Do(%v, %+v, %+v) = %v, %t, want %v", v, in, x.p, got, ok, want)
		}
	}
}

// P18.1: what remains in VF if it is VX is the flag, and the result only if there is no flag.
func TestDoFlagRegister(t *testing.T) {
	none := api.Profile{Level: api.XOChip}
	reset := api.Profile{Level: api.XOChip, LogicReset: true}
	for _, x := range []struct {
		op   int
		p    api.Profile
		want byte
	}{
		{api.SetNN, reset, 33}, {api.AddNN, reset, 133}, {api.Move, reset, 200},
		{api.Or, none, 236}, {api.And, none, 64}, {api.Xor, none, 172},
		{api.Or, reset, 0}, {api.And, reset, 0}, {api.Xor, reset, 0},
		{api.Add, none, 1}, {api.Sub, none, 0}, {api.SubFrom, none, 1},
		{api.ShiftRight, none, 0}, {api.ShiftLeft, none, 0},
	} {
		v := with(registers(), 15, 100, 2, 200)
		want := v
		want[15] = x.want
		in := api.Instr{Op: x.op, X: 15, Y: 2, NN: 33, Len: 2}
		if got, ok := Do(v, in, x.p); got != want || !ok {
			t.Errorf("Do(%v, %+v, %+v) = %v, %t, want %v", v, in, x.p, got, ok, want)
		}
	}
}

// P18.1: VF as VY is read before the flag is stored in it.
func TestDoReadsFlagRegister(t *testing.T) {
	p := api.Profile{Level: api.Chip8, ShiftVY: true, LogicReset: true}
	for _, x := range []struct {
		op           int
		result, flag byte
	}{
		{api.Move, 129, 129}, {api.Or, 201, 0}, {api.And, 128, 0}, {api.Xor, 73, 0},
		{api.Add, 73, 1}, {api.Sub, 71, 1}, {api.SubFrom, 185, 0},
		{api.ShiftRight, 64, 1}, {api.ShiftLeft, 2, 1},
	} {
		v := with(registers(), 6, 200, 15, 129)
		want := v
		want[6], want[15] = x.result, x.flag
		in := api.Instr{Op: x.op, X: 6, Y: 15, Len: 2}
		if got, ok := Do(v, in, p); got != want || !ok {
			t.Errorf("Do(%v, %+v, %+v) = %v, %t, want %v", v, in, p, got, ok, want)
		}
	}
}

// P18.1: all pairs of bytes for all operations; NN is the second byte too.
func TestDoEveryPairOfBytes(t *testing.T) {
	for _, op := range operationOps {
		for i := range 1 << 16 {
			vx, vy := byte(i>>8), byte(i)
			in := api.Instr{Op: op, X: 1, Y: 2, NN: i & 255, Len: 2}
			for _, p := range []api.Profile{fourProfiles[0], fourProfiles[3]} {
				checkDo(t, with(registers(), 1, vx, 2, vy), in, p)
			}
		}
	}
}

// P18.1: the pairs of registers that matter, with all their bytes that do, and all choices of quirks.
func TestDoPairsOfRegisters(t *testing.T) {
	for _, op := range operationOps {
		for _, pair := range pairs {
			for _, vx := range someBytes {
				for _, vy := range someBytes {
					in := api.Instr{Op: op, X: pair[0], Y: pair[1], NN: int(vy), Len: 2}
					for _, p := range fourProfiles {
						checkDo(t, with(registers(), pair[0], vx, pair[1], vy), in, p)
					}
				}
			}
		}
	}
}

// P18.1: all registers as VX and VY: no other one is read or changed, but VF by a flag.
func TestDoEveryPairOfRegisters(t *testing.T) {
	for _, op := range operationOps {
		for i := range 256 {
			in := api.Instr{Op: op, X: i / 16, Y: i % 16, NN: 77, Len: 2}
			for _, p := range fourProfiles {
				checkDo(t, registers(), in, p)
			}
		}
	}
}

// P18.1: an operation takes nothing from the other fields of an instruction, the level and the other quirks.
func TestDoIgnoresTheRest(t *testing.T) {
	for _, op := range operationOps {
		for _, level := range []int{0, api.Chip8, api.SuperChip, api.XOChip, 4, -1, math.MaxInt} {
			for set := range 128 {
				p := api.Profile{
					Level: level, ShiftVY: set&1 != 0, KeepI: set&2 != 0, JumpVX: set&4 != 0, LogicReset: set&8 != 0,
					Clip: set&16 != 0, DisplayWait: set&32 != 0, Fault: set&64 != 0,
				}
				in := api.Instr{Op: op, X: 1, Y: 2, NN: 211, N: set, Addr: set * 512, Len: set % 5}
				checkDo(t, registers(), in, p)
			}
		}
	}
}

// P18.1: all other Ops, and numbers that are no Op, leave the registers as they are.
func TestDoOtherOps(t *testing.T) {
	others := slices.Clone(wrongOps)
	for op := range api.SetPitch + 1 {
		if !slices.Contains(operationOps, op) {
			others = append(others, op)
		}
	}
	for _, op := range others {
		for _, pair := range pairs {
			for _, p := range fourProfiles {
				in := api.Instr{Op: op, X: pair[0], Y: pair[1], NN: 9, Len: 2}
				if got, ok := Do(registers(), in, p); got != registers() || ok {
					t.Errorf("Do(%+v, %+v) = %v, %t, want the registers and false", in, p, got, ok)
				}
			}
		}
	}
}

// P18.2: examples that are written out.
func TestDigitsNamed(t *testing.T) {
	for b, want := range map[byte][3]byte{
		0: {0, 0, 0}, 1: {0, 0, 1}, 9: {0, 0, 9}, 10: {0, 1, 0}, 99: {0, 9, 9}, 100: {1, 0, 0},
		109: {1, 0, 9}, 110: {1, 1, 0}, 199: {1, 9, 9}, 200: {2, 0, 0}, 254: {2, 5, 4}, 255: {2, 5, 5},
	} {
		if got := Digits(b); got != want {
			t.Errorf("Digits(%d) = %v, want %v", b, got, want)
		}
	}
}

// P18.2
func TestDigitsEveryByte(t *testing.T) {
	for n := range 256 {
		text := fmt.Sprintf("%03d", n)
		want := [3]byte{text[0] - '0', text[1] - '0', text[2] - '0'}
		if got := Digits(byte(n)); got != want {
			t.Errorf("Digits(%d) = %v, want %v", n, got, want)
		}
	}
}

// checkSkips compares the results of Skips with the wanted ones.
func checkSkips(t *testing.T, v [16]byte, in api.Instr, want, wantOK bool) {
	t.Helper()
	if got, ok := Skips(v, in); got != want || ok != wantOK {
		t.Fatalf("Skips(%v, %+v) = %t, %t, want %t, %t", v, in, got, ok, want, wantOK)
	}
}

// P18.3: all pairs of bytes; what a condition does not compare is different if the others are equal, and equal if they differ.
func TestSkipsEveryPairOfBytes(t *testing.T) {
	for i := range 1 << 16 {
		first, second := i>>8, i&255
		equal := first == second
		other := first
		if equal {
			other = 255 - first
		}
		for _, pair := range [][2]int{{1, 2}, {15, 0}, {0, 15}} {
			x, y := pair[0], pair[1]
			v := with(registers(), x, byte(first), y, byte(other))
			checkSkips(t, v, api.Instr{Op: api.SkipEqNN, X: x, Y: y, NN: second, Len: 2}, equal, true)
			checkSkips(t, v, api.Instr{Op: api.SkipNeNN, X: x, Y: y, NN: second, Len: 2}, !equal, true)
			v = with(registers(), x, byte(first), y, byte(second))
			checkSkips(t, v, api.Instr{Op: api.SkipEqVY, X: x, Y: y, NN: other, Len: 2}, equal, true)
			checkSkips(t, v, api.Instr{Op: api.SkipNeVY, X: x, Y: y, NN: other, Len: 2}, !equal, true)
		}
	}
}

// P18.3: all registers as VX and VY; a register is equal to itself, and to no other one.
func TestSkipsEveryPairOfRegisters(t *testing.T) {
	v := registers()
	for i := range 256 {
		x, y := i/16, i%16
		checkSkips(t, v, api.Instr{Op: api.SkipEqVY, X: x, Y: y, Len: 2}, x == y, true)
		checkSkips(t, v, api.Instr{Op: api.SkipNeVY, X: x, Y: y, Len: 2}, x != y, true)
		checkSkips(t, v, api.Instr{Op: api.SkipEqNN, X: x, NN: int(v[y]), Len: 2}, x == y, true)
		checkSkips(t, v, api.Instr{Op: api.SkipNeNN, X: x, NN: int(v[y]), Len: 2}, x != y, true)
	}
}

// P18.3: all other Ops, those of the skips by keys among them, and numbers that are no Op.
func TestSkipsOtherOps(t *testing.T) {
	others := slices.Clone(wrongOps)
	for op := range api.SetPitch + 1 {
		if !slices.Contains(skipOps, op) {
			others = append(others, op)
		}
	}
	v := registers()
	for _, op := range others {
		for _, pair := range pairs {
			for _, nn := range []int{0, int(v[pair[0]]), int(v[pair[1]])} {
				checkSkips(t, v, api.Instr{Op: op, X: pair[0], Y: pair[1], NN: nn, Len: 2}, false, false)
			}
		}
	}
}

// The functions end without a panic for fields that no instruction has; only whether the Op is listed means something then.
func TestWrongFields(t *testing.T) {
	wrong := []int{-1, -2, -16, -17, -256, math.MinInt, math.MinInt + 1, 16, 17, 31, 32, 255, 256, 1 << 32, 1<<32 + 1, math.MaxInt}
	for op := -1; op <= api.SetPitch+1; op++ {
		for _, a := range wrong {
			for _, in := range []api.Instr{{X: a}, {Y: a}, {NN: a}, {X: a, Y: a, NN: a}, {X: 15, Y: a}, {X: a, Y: 15}} {
				in.Op = op
				_, done := Do(registers(), in, fourProfiles[3])
				_, compared := Skips(registers(), in)
				if done != slices.Contains(operationOps, op) || compared != slices.Contains(skipOps, op) {
					t.Errorf("%+v: Do reports %t, and Skips %t", in, done, compared)
				}
			}
		}
	}
}
