package decode

import (
	"math"
	"strings"
	"sync"
	"testing"

	"cosmac/api"
)

// line is a line of the chapter's table, with an opcode of its kind and what the opcode is decoded to from the level on.
type line struct {
	pattern string
	fields  string
	level   int
	opcode  int
	want    api.Instr
}

// table is the chapter's table, in its order.
var table = []line{
	{"00E0", "", 1, 0x00E0, api.Instr{Op: 1, Len: 2}},
	{"00EE", "", 1, 0x00EE, api.Instr{Op: 2, Len: 2}},
	{"1NNN", "Addr", 1, 0x1234, api.Instr{Op: 3, Addr: 564, Len: 2}},
	{"2NNN", "Addr", 1, 0x2FED, api.Instr{Op: 4, Addr: 4077, Len: 2}},
	{"3XNN", "X NN", 1, 0x3A12, api.Instr{Op: 5, X: 10, NN: 18, Len: 2}},
	{"4XNN", "X NN", 1, 0x4BFE, api.Instr{Op: 6, X: 11, NN: 254, Len: 2}},
	{"5XY0", "X Y", 1, 0x5120, api.Instr{Op: 7, X: 1, Y: 2, Len: 2}},
	{"6XNN", "X NN", 1, 0x6C07, api.Instr{Op: 8, X: 12, NN: 7, Len: 2}},
	{"7XNN", "X NN", 1, 0x71FF, api.Instr{Op: 9, X: 1, NN: 255, Len: 2}},
	{"8XY0", "X Y", 1, 0x8120, api.Instr{Op: 10, X: 1, Y: 2, Len: 2}},
	{"8XY1", "X Y", 1, 0x8341, api.Instr{Op: 11, X: 3, Y: 4, Len: 2}},
	{"8XY2", "X Y", 1, 0x8562, api.Instr{Op: 12, X: 5, Y: 6, Len: 2}},
	{"8XY3", "X Y", 1, 0x8783, api.Instr{Op: 13, X: 7, Y: 8, Len: 2}},
	{"8XY4", "X Y", 1, 0x89A4, api.Instr{Op: 14, X: 9, Y: 10, Len: 2}},
	{"8XY5", "X Y", 1, 0x8BC5, api.Instr{Op: 15, X: 11, Y: 12, Len: 2}},
	{"8XY6", "X Y", 1, 0x8DE6, api.Instr{Op: 16, X: 13, Y: 14, Len: 2}},
	{"8XY7", "X Y", 1, 0x8F07, api.Instr{Op: 17, X: 15, Len: 2}},
	{"8XYE", "X Y", 1, 0x812E, api.Instr{Op: 18, X: 1, Y: 2, Len: 2}},
	{"9XY0", "X Y", 1, 0x9340, api.Instr{Op: 19, X: 3, Y: 4, Len: 2}},
	{"ANNN", "Addr", 1, 0xA123, api.Instr{Op: 20, Addr: 291, Len: 2}},
	{"BNNN", "X Addr", 1, 0xB423, api.Instr{Op: 21, X: 4, Addr: 1059, Len: 2}},
	{"CXNN", "X NN", 1, 0xC50F, api.Instr{Op: 22, X: 5, NN: 15, Len: 2}},
	{"DXYN", "X Y N", 1, 0xD67F, api.Instr{Op: 23, X: 6, Y: 7, N: 15, Len: 2}},
	{"EX9E", "X", 1, 0xE89E, api.Instr{Op: 24, X: 8, Len: 2}},
	{"EXA1", "X", 1, 0xE9A1, api.Instr{Op: 25, X: 9, Len: 2}},
	{"FX07", "X", 1, 0xFA07, api.Instr{Op: 26, X: 10, Len: 2}},
	{"FX0A", "X", 1, 0xFB0A, api.Instr{Op: 27, X: 11, Len: 2}},
	{"FX15", "X", 1, 0xFC15, api.Instr{Op: 28, X: 12, Len: 2}},
	{"FX18", "X", 1, 0xFD18, api.Instr{Op: 29, X: 13, Len: 2}},
	{"FX1E", "X", 1, 0xFE1E, api.Instr{Op: 30, X: 14, Len: 2}},
	{"FX29", "X", 1, 0xFF29, api.Instr{Op: 31, X: 15, Len: 2}},
	{"FX33", "X", 1, 0xF133, api.Instr{Op: 32, X: 1, Len: 2}},
	{"FX55", "X", 1, 0xF255, api.Instr{Op: 33, X: 2, Len: 2}},
	{"FX65", "X", 1, 0xF365, api.Instr{Op: 34, X: 3, Len: 2}},
	{"00CN", "N", 2, 0x00C7, api.Instr{Op: 35, N: 7, Len: 2}},
	{"00FB", "", 2, 0x00FB, api.Instr{Op: 36, Len: 2}},
	{"00FC", "", 2, 0x00FC, api.Instr{Op: 37, Len: 2}},
	{"00FD", "", 2, 0x00FD, api.Instr{Op: 38, Len: 2}},
	{"00FE", "", 2, 0x00FE, api.Instr{Op: 39, Len: 2}},
	{"00FF", "", 2, 0x00FF, api.Instr{Op: 40, Len: 2}},
	{"DXY0", "X Y", 2, 0xD120, api.Instr{Op: 41, X: 1, Y: 2, Len: 2}},
	{"FX30", "X", 2, 0xF430, api.Instr{Op: 42, X: 4, Len: 2}},
	{"FX75", "X", 2, 0xF575, api.Instr{Op: 43, X: 5, Len: 2}},
	{"FX85", "X", 2, 0xF685, api.Instr{Op: 44, X: 6, Len: 2}},
	{"00DN", "N", 3, 0x00D9, api.Instr{Op: 45, N: 9, Len: 2}},
	{"5XY2", "X Y", 3, 0x5982, api.Instr{Op: 46, X: 9, Y: 8, Len: 2}},
	{"5XY3", "X Y", 3, 0x5763, api.Instr{Op: 47, X: 7, Y: 6, Len: 2}},
	{"F000", "Addr", 3, 0xF000, api.Instr{Op: 48, Addr: 0xABCD, Len: 4}},
	{"FN01", "N", 3, 0xFE01, api.Instr{Op: 49, N: 14, Len: 2}},
	{"F002", "", 3, 0xF002, api.Instr{Op: 50, Len: 2}},
	{"FX3A", "X", 3, 0xF83A, api.Instr{Op: 51, X: 8, Len: 2}},
}

// illegal is what all illegal opcodes are decoded to.
var illegal = api.Instr{Len: 2}

// tails are bytes behind an opcode, with the number of both.
var tails = []struct {
	third, fourth byte
	number        int
}{
	{0x00, 0x00, 0}, {0x00, 0x01, 1}, {0x01, 0x00, 256}, {0x12, 0x34, 4660}, {0x7F, 0xFF, 32767}, {0x80, 0x00, 32768},
	{0x00, 0xFF, 255}, {0xFF, 0x00, 65280}, {0xFF, 0xFF, 65535}, {0xF0, 0x00, 61440}, {0x00, 0xE0, 224},
}

// otherLevels are numbers that are no level; many of them have the last bits of one.
var otherLevels = []int{
	0, -1, -2, -3, 4, 5, 6, 7, 255, 256, 257, 258, 259, -253, -254, -255, 65537, 65538, 65539, -65533,
	1<<31 + 1, 1<<32 + 1, 1<<32 + 2, 1<<32 + 3, -1<<32 + 1, -1<<32 + 2, -1<<32 + 3, math.MinInt + 1, math.MinInt + 3, math.MinInt, math.MaxInt,
}

// bytesOf returns the bytes of an opcode, and two more.
func bytesOf(opcode int, third, fourth byte) [4]byte {
	return [4]byte{byte(opcode / 256), byte(opcode % 256), third, fourth}
}

// digit returns the digit of an opcode at a place from 0 to 3.
func digit(opcode, place int) int { return opcode >> (12 - 4*place) & 15 }

// fits reports whether an opcode is of the kind of a pattern of the table.
func fits(pattern string, opcode int) bool {
	for place := range pattern {
		fixed := strings.IndexByte("0123456789ABCDEF", pattern[place])
		if fixed >= 0 && digit(opcode, place) != fixed {
			return false
		}
	}
	return pattern != "DXYN" || digit(opcode, 3) > 0
}

// allowed reports whether an opcode that fits a line is legal for a level.
func allowed(l line, opcode, level int) bool {
	if (l.pattern == "FX75" || l.pattern == "FX85") && level == 2 && digit(opcode, 1) > 7 {
		return false
	}
	return level >= l.level && level <= 3
}

// model decodes an opcode by looking it up in the chapter's table.
func model(opcode, next, level int) api.Instr {
	in := illegal
	for _, l := range table {
		if !fits(l.pattern, opcode) || !allowed(l, opcode, level) {
			continue
		}
		in.Op = l.want.Op
		for _, field := range strings.Fields(l.fields) {
			switch field {
			case "X":
				in.X = digit(opcode, 1)
			case "Y":
				in.Y = digit(opcode, 2)
			case "N":
				in.N = digit(opcode, strings.IndexByte(l.pattern, 'N'))
			case "NN":
				in.NN = opcode % 256
			case "Addr":
				in.Addr = opcode % 4096
			}
		}
		if l.pattern == "F000" {
			in.Addr, in.Len = next, 4
		}
	}
	return in
}

// P14.1: the chapter's examples.
func TestExamples(t *testing.T) {
	for _, fourth := range []byte{0, 1, 255} {
		for level := 1; level <= 3; level++ {
			want := api.Instr{Op: api.Draw, X: 1, Y: 2, N: 3, Len: 2}
			if got := Decode([4]byte{0xD1, 0x23, 0x45, fourth}, level); got != want {
				t.Errorf("D1 23 45 %02X is decoded to %+v for the level %d, want %+v", fourth, got, level, want)
			}
		}
	}
	long := [4]byte{0xF0, 0x00, 0x12, 0x34}
	if got := Decode(long, api.SuperChip); got != illegal {
		t.Errorf("F0 00 12 34 is decoded to %+v for SuperChip, want it to be illegal", got)
	}
	want := api.Instr{Op: api.LongI, Addr: 4660, Len: 4}
	if got := Decode(long, api.XOChip); got != want {
		t.Errorf("F0 00 12 34 is decoded to %+v for XOChip, want %+v", got, want)
	}
}

// P14.1: an opcode of each line of the table, for all levels.
func TestDecodeTable(t *testing.T) {
	if len(table) != 51 {
		t.Fatalf("the table has %d lines", len(table))
	}
	for _, l := range table {
		for level := -1; level <= 5; level++ {
			want := illegal
			if level >= l.level && level <= 3 {
				want = l.want
			}
			if got := Decode(bytesOf(l.opcode, 0xAB, 0xCD), level); got != want {
				t.Errorf("%s: %04X is decoded to %+v for the level %d, want %+v", l.pattern, l.opcode, got, level, want)
			}
		}
	}
}

// P14.1: all opcodes, as the model decodes them, for all levels and some numbers that are none.
func TestDecodeEveryOpcode(t *testing.T) {
	for opcode := range 65536 {
		for level := -1; level <= 5; level++ {
			want := model(opcode, 0x1234, level)
			if got := Decode(bytesOf(opcode, 0x12, 0x34), level); got != want {
				t.Fatalf("%04X is decoded to %+v for the level %d, want %+v", opcode, got, level, want)
			}
		}
	}
}

// P14.1: only LongI depends on the bytes behind the opcode.
func TestDecodeTails(t *testing.T) {
	for _, tail := range tails {
		for level := 1; level <= 3; level++ {
			for opcode := range 65536 {
				want := model(opcode, tail.number, level)
				if got := Decode(bytesOf(opcode, tail.third, tail.fourth), level); got != want {
					t.Fatalf("%04X %02X %02X is decoded to %+v for the level %d, want %+v", opcode, tail.third, tail.fourth, got, level, want)
				}
			}
		}
	}
}

// P14.1: opcodes that resemble those of the table are illegal for all levels.
func TestDecodeIllegal(t *testing.T) {
	for _, opcode := range []int{
		0x0000, 0x0001, 0x00BF, 0x00E1, 0x00ED, 0x00EF, 0x00FA, 0x00F0, 0x0123, 0x01C0, 0x01D0, 0x01E0, 0x01EE, 0x01FD, 0x02E0,
		0x5121, 0x5124, 0x512F, 0x8128, 0x8129, 0x812D, 0x812F, 0x9121, 0x912F, 0xE19F, 0xE19D, 0xE1A0, 0xE1A2, 0xE100, 0xE1FF,
		0xF100, 0xFF00, 0xF102, 0xF202, 0xF003, 0xF103, 0xF106, 0xF10B, 0xF114, 0xF116, 0xF119, 0xF11F, 0xF128, 0xF132, 0xF139, 0xF13B, 0xF154, 0xF166, 0xF174, 0xF186, 0xF1FF,
	} {
		for level := -1; level <= 5; level++ {
			if got := Decode(bytesOf(opcode, 0xAB, 0xCD), level); got != illegal {
				t.Errorf("%04X is decoded to %+v for the level %d, want it to be illegal", opcode, got, level)
			}
		}
	}
}

// P14.1: the greatest number of saved and loaded flags depends on the level.
func TestDecodeFlags(t *testing.T) {
	for _, c := range []struct{ low, op int }{{0x75, api.SaveFlags}, {0x85, api.LoadFlags}} {
		for x := range 16 {
			for level := -1; level <= 5; level++ {
				want := illegal
				if level == api.SuperChip && x <= 7 || level == api.XOChip {
					want = api.Instr{Op: c.op, X: x, Len: 2}
				}
				if got := Decode(bytesOf(0xF000+256*x+c.low, 0, 0), level); got != want {
					t.Errorf("F%X%X is decoded to %+v for the level %d, want %+v", x, c.low, got, level, want)
				}
			}
		}
	}
}

// P14.1: the last digit 0 tells a big sprite, and is not a Draw without rows where there are no big sprites.
func TestDecodeDraw(t *testing.T) {
	for n := range 16 {
		for level := 1; level <= 3; level++ {
			want := api.Instr{Op: api.Draw, X: 14, Y: 3, N: n, Len: 2}
			if n == 0 && level == api.Chip8 {
				want = illegal
			} else if n == 0 {
				want = api.Instr{Op: api.DrawBig, X: 14, Y: 3, Len: 2}
			}
			if got := Decode(bytesOf(0xDE30+n, 0, 0), level); got != want {
				t.Errorf("DE3%X is decoded to %+v for the level %d, want %+v", n, got, level, want)
			}
		}
	}
}

// P14.1: the digit 0 is one, for scrolling as for planes.
func TestDecodeZeros(t *testing.T) {
	for _, c := range []struct {
		opcode int
		want   api.Instr
	}{
		{0x00C0, api.Instr{Op: api.ScrollDown, Len: 2}}, {0x00CF, api.Instr{Op: api.ScrollDown, N: 15, Len: 2}},
		{0x00D0, api.Instr{Op: api.ScrollUp, Len: 2}}, {0x00DF, api.Instr{Op: api.ScrollUp, N: 15, Len: 2}},
		{0xF001, api.Instr{Op: api.SetPlanes, Len: 2}}, {0xFF01, api.Instr{Op: api.SetPlanes, N: 15, Len: 2}},
		{0x1000, api.Instr{Op: api.Jump, Len: 2}}, {0xB000, api.Instr{Op: api.JumpAdd, Len: 2}}, {0xBFFF, api.Instr{Op: api.JumpAdd, X: 15, Addr: 4095, Len: 2}},
		{0xF03A, api.Instr{Op: api.SetPitch, Len: 2}}, {0xF007, api.Instr{Op: api.GetDelay, Len: 2}}, {0x5002, api.Instr{Op: api.StoreRange, Len: 2}},
	} {
		if got := Decode(bytesOf(c.opcode, 0xAB, 0xCD), api.XOChip); got != c.want {
			t.Errorf("%04X is decoded to %+v, want %+v", c.opcode, got, c.want)
		}
	}
}

// P14.1: for numbers that are no level, all opcodes are illegal.
func TestDecodeOtherLevels(t *testing.T) {
	for _, level := range otherLevels {
		for _, l := range table {
			if got := Decode(bytesOf(l.opcode, 0xAB, 0xCD), level); got != illegal {
				t.Errorf("%04X is decoded to %+v for the level %d, want it to be illegal", l.opcode, got, level)
			}
		}
	}
}

// P14.2: two bytes for everything but F0 00 of XOChip.
func TestSkipLen(t *testing.T) {
	for level := -1; level <= 5; level++ {
		for opcode := range 65536 {
			want := 2
			if opcode == 0xF000 && level == 3 {
				want = 4
			}
			if got := SkipLen(byte(opcode/256), byte(opcode%256), level); got != want {
				t.Errorf("the skip length of %04X is %d for the level %d, want %d", opcode, got, level, want)
			}
		}
	}
}

// P14.2: numbers that are no level.
func TestSkipLenOtherLevels(t *testing.T) {
	for _, level := range otherLevels {
		for _, high := range []byte{0x00, 0xF0} {
			if got := SkipLen(high, 0x00, level); got != 2 {
				t.Errorf("the skip length of %02X 00 is %d for the level %d, want 2", high, got, level)
			}
		}
	}
}

// P14.2: the skip length is that of the instruction.
func TestSkipLenOfInstructions(t *testing.T) {
	for level := -1; level <= 5; level++ {
		for opcode := range 65536 {
			b := bytesOf(opcode, 0xF0, 0x00)
			if got, want := SkipLen(b[0], b[1], level), Decode(b, level).Len; got != want {
				t.Errorf("the skip length of %04X is %d for the level %d, but its Len is %d", opcode, got, level, want)
			}
		}
	}
}

// P14.3: all Ops, and numbers around them that are none.
func TestLevel(t *testing.T) {
	for op := -300; op <= 300; op++ {
		want := 0
		if op >= 1 && op <= len(table) {
			want = table[op-1].level
		}
		if got := Level(op); got != want {
			t.Errorf("the level of the Op %d is %d, want %d", op, got, want)
		}
		if got := Base(op); got != (want == 1) {
			t.Errorf("the Op %d is a base one: %v", op, got)
		}
	}
}

// P14.3: the first and the last Op of each level.
func TestLevelEdges(t *testing.T) {
	for op, want := range map[int]int{
		api.Illegal: 0, api.Clear: 1, api.Draw: 1, api.Load: 1, api.ScrollDown: 2, api.DrawBig: 2, api.SaveFlags: 2, api.LoadFlags: 2,
		api.ScrollUp: 3, api.LongI: 3, api.SetPitch: 3, api.SetPitch + 1: 0, -1: 0,
	} {
		if got := Level(op); got != want {
			t.Errorf("the level of the Op %d is %d, want %d", op, got, want)
		}
		if got := Base(op); got != (want == 1) {
			t.Errorf("the Op %d is a base one: %v", op, got)
		}
	}
}

// P14.3: huge numbers are not taken for the Ops that have the same last bits.
func TestLevelHuge(t *testing.T) {
	for _, add := range []int{1 << 8, 1 << 16, 1 << 31, 1 << 32, 1 << 40, 1 << 62, -1 << 8, -1 << 16, -1 << 31, -1 << 32, -1 << 40, -1 << 62, math.MinInt} {
		for op := range 60 {
			if got := Level(op + add); got != 0 || Base(op+add) {
				t.Errorf("the level of the Op %d is %d", op+add, got)
			}
		}
	}
	if Level(math.MaxInt) != 0 || Base(math.MaxInt) || Level(math.MinInt) != 0 || Base(math.MinInt) {
		t.Error("the greatest or the least number has a level")
	}
}

// P14.3: the level of an Op is the least one for which some opcode is decoded to it.
func TestLevelOfInstructions(t *testing.T) {
	least := map[int]int{}
	for level := 3; level >= 1; level-- {
		for opcode := range 65536 {
			least[Decode(bytesOf(opcode, 0, 0), level).Op] = level
		}
	}
	delete(least, api.Illegal)
	if len(least) != len(table) {
		t.Errorf("there are %d Ops, want %d", len(least), len(table))
	}
	for op, want := range least {
		if got := Level(op); got != want {
			t.Errorf("the level of the Op %d is %d, but opcodes are decoded to it from %d on", op, got, want)
		}
	}
}

// P14.3: the levels are the same for all callers, also those that ask at the same time.
func TestLevelAtTheSameTime(t *testing.T) {
	var all sync.WaitGroup
	for range 8 {
		all.Go(func() {
			for i, l := range table {
				if got := Level(i + 1); got != l.level {
					t.Errorf("the level of the Op %d is %d, want %d", i+1, got, l.level)
				}
			}
		})
	}
	all.Wait()
}

// checkLevels checks that the collected levels are those of the table, with 0 for Illegal.
func checkLevels(t *testing.T) {
	t.Helper()
	got := Levels()
	if len(got) != len(table)+1 || got[api.Illegal] != 0 {
		t.Errorf("there are %d levels, the first one is %d", len(got), got[api.Illegal])
	}
	for i, l := range table {
		if got[i+1] != l.level {
			t.Errorf("the collected level of the Op %d is %d, want %d", i+1, got[i+1], l.level)
		}
	}
}

// P14.3: the collected levels are those of all Ops, also for callers that ask at the same time.
func TestLevels(t *testing.T) {
	var all sync.WaitGroup
	for range 8 {
		all.Go(func() { checkLevels(t) })
	}
	all.Wait()
	for op, got := range Levels() {
		if want := Level(op); got != want {
			t.Errorf("the collected level of the Op %d is %d, but its level is %d", op, got, want)
		}
	}
}

// P14.3: the collected levels are a copy.
func TestLevelsAreCopied(t *testing.T) {
	got := Levels()
	clear(got[:])
	checkLevels(t)
}

// P14.4: what is legal for a level is decoded in the same way for all higher ones.
func TestHigherLevels(t *testing.T) {
	for _, tail := range tails {
		for opcode := range 65536 {
			b := bytesOf(opcode, tail.third, tail.fourth)
			for level := 1; level < 3; level++ {
				low, high := Decode(b, level), Decode(b, level+1)
				if low.Op != api.Illegal && low != high {
					t.Fatalf("%04X is decoded to %+v for the level %d, and to %+v for the next one", opcode, low, level, high)
				}
			}
		}
	}
}

// P14.1: the same bytes are decoded in the same way, whatever was decoded before.
func TestDecodeAgain(t *testing.T) {
	for _, l := range table {
		b := bytesOf(l.opcode, 0xAB, 0xCD)
		first := Decode(b, 3)
		Decode(b, 0)
		Decode(bytesOf(0xF000, 0xFF, 0xFF), 3)
		if second := Decode(b, 3); first != l.want || second != l.want {
			t.Errorf("%04X is decoded to %+v, and then to %+v, want %+v", l.opcode, first, second, l.want)
		}
	}
}
