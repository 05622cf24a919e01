package cpu

import (
	"bytes"
	"math"
	"slices"
	"testing"

	"cosmac/api"
	"cosmac/audio"
	"cosmac/decode"
	"cosmac/flags"
	"cosmac/font"
	"cosmac/keypad"
	"cosmac/mem"
	"cosmac/screen"
	"cosmac/stack"
	"cosmac/timer"
)

var (
	chip8  = api.Profile{Level: api.Chip8}
	schip  = api.Profile{Level: api.SuperChip}
	xochip = api.Profile{Level: api.XOChip}
)

// with returns a profile that f has changed.
func with(p api.Profile, f func(p *api.Profile)) api.Profile {
	f(&p)
	return p
}

// fault returns a profile with the quirk Fault.
func fault(p api.Profile) api.Profile { return with(p, func(p *api.Profile) { p.Fault = true }) }

// keepI returns a profile with the quirk KeepI.
func keepI(p api.Profile) api.Profile { return with(p, func(p *api.Profile) { p.KeepI = true }) }

// profiles returns the profiles with all choices of quirks for a level.
func profiles(level int) []api.Profile {
	var l []api.Profile
	for set := range 128 {
		l = append(l, api.Profile{
			Level: level, ShiftVY: set&1 != 0, KeepI: set&2 != 0, JumpVX: set&4 != 0, LogicReset: set&8 != 0,
			Clip: set&16 != 0, DisplayWait: set&32 != 0, Fault: set&64 != 0,
		})
	}
	return l
}

// decoded returns the instruction of an opcode for a level; behind the opcode are the bytes 12 and 34.
func decoded(opcode, level int) api.Instr {
	return decode.Decode([4]byte{byte(opcode >> 8), byte(opcode), 0x12, 0x34}, level)
}

// full returns a state no part of which is as it is at first: V0 is 16, V1 is 33, and so on, and PC is 0x300, I 0x400.
func full(t *testing.T) *State {
	t.Helper()
	s, e := New([]byte{1, 2, 3}, []byte{0xF3, 0x0F, 0x81})
	if e != api.OK {
		t.Fatal(e)
	}
	for i := range s.V {
		s.V[i] = byte(16 + 17*i)
	}
	s.I, s.PC = 0x400, 0x300
	s.Stack, _ = stack.Push(s.Stack, 0x222)
	s.Stack, _ = stack.Push(s.Stack, 0x444)
	all := make([]byte, api.MemSize)
	for a := range all {
		all[a] = byte(a*7 + a>>8)
	}
	s.Mem.Write(0, all)
	s.Mem.Dirty()
	s.Screen, _ = screen.Draw(screen.Select(s.Screen, 15), 60, 30, 3, false, false, []byte{1, 2, 3, 4, 5, 6, 7, 8, 9, 10, 11, 255})
	s.Screen = screen.Select(s.Screen, 6)
	s.Pad = keypad.Pad{Down: [16]bool{3: true, 9: true}}
	s.Timers = timer.Timers{Delay: 77, Sound: 88}
	s.Audio = audio.Tune(audio.Load(s.Audio, []byte{5, 6, 7}), 99)
	s.Flags = flags.Save(s.Flags, []byte{201, 202, 203, 204, 205, 206, 207, 208, 209, 210, 211, 212, 213, 214, 215, 216})
	s.Random.Next()
	return s
}

// compare compares all contents of two states, but the logs of their memories.
func compare(t *testing.T, got, want *State) {
	t.Helper()
	if got.V != want.V || got.I != want.I || got.PC != want.PC || got.Stack != want.Stack {
		t.Errorf("V %v, I %d, PC %d, %v; want V %v, I %d, PC %d, %v", got.V, got.I, got.PC, got.Stack, want.V, want.I, want.PC, want.Stack)
	}
	if got.Screen != want.Screen {
		t.Error("the screens differ")
	}
	if got.Pad != want.Pad || got.Timers != want.Timers || got.Audio != want.Audio || got.Flags != want.Flags {
		t.Errorf("%v, %v, %v, %v; want %v, %v, %v, %v", got.Pad, got.Timers, got.Audio, got.Flags, want.Pad, want.Timers, want.Audio, want.Flags)
	}
	if !bytes.Equal(got.Mem.Bytes(0, api.MemSize), want.Mem.Bytes(0, api.MemSize)) {
		t.Error("the memories differ")
	}
	if got.Random.Count() != want.Random.Count() || !bytes.Equal(got.Random.List(), want.Random.List()) {
		t.Errorf("the streams have read %d of %v, want %d of %v", got.Random.Count(), got.Random.List(), want.Random.Count(), want.Random.List())
	}
}

// check executes an instruction in a state, and compares the effect, and the state and the log of its memory with those that want makes from a clone of the state before.
func check(t *testing.T, s *State, in api.Instr, p api.Profile, e Effect, want func(s *State)) {
	t.Helper()
	s = Clone(s)
	w := Clone(s)
	want(w)
	if got := Exec(s, in, p); got != e {
		t.Errorf("Exec(%+v, %+v) = %+v, want %+v", in, p, got, e)
	}
	compare(t, s, w)
	if got, log := s.Mem.Dirty(), w.Mem.Dirty(); !slices.Equal(got, log) {
		t.Errorf("Exec(%+v, %+v) has logged %v, want %v", in, p, got, log)
	}
	if t.Failed() {
		t.Fatalf("after Exec(%+v, %+v)", in, p)
	}
}

// checkNext does the same with an opcode that has no effect, and after which PC is 2 greater.
func checkNext(t *testing.T, s *State, opcode int, p api.Profile, want func(s *State)) {
	t.Helper()
	check(t, s, decoded(opcode, p.Level), p, Effect{}, func(s *State) {
		s.PC += 2
		want(s)
	})
}

// checkFailure does the same with an opcode that fails: nothing is changed.
func checkFailure(t *testing.T, s *State, opcode int, p api.Profile, cause api.Errno) {
	t.Helper()
	check(t, s, decoded(opcode, p.Level), p, Effect{Cause: cause}, unchanged)
}

// unchanged leaves a state as it is.
func unchanged(*State) {}

// P19.1
func TestNew(t *testing.T) {
	longest := make([]byte, api.MaxROM)
	for i := range longest {
		longest[i] = byte(i*3 + 1)
	}
	for _, rom := range [][]byte{nil, {}, {7}, {0x12, 0x34}, longest[:255], longest[:65023], longest} {
		for _, list := range [][]byte{nil, {}, {9}, {1, 2, 3}, longest} {
			s, e := New(rom, list)
			if s == nil || e != api.OK {
				t.Fatalf("New with %d and %d bytes: %v", len(rom), len(list), e)
			}
			want := State{PC: 512, Mem: s.Mem, Random: s.Random}
			want.Screen.Mask = 1
			want.Audio.Pitch = 64
			if *s != want {
				t.Errorf("New with %d and %d bytes: V %v, I %d, PC %d, or another part differs", len(rom), len(list), s.V, s.I, s.PC)
			}
			memory := make([]byte, 65536)
			copy(memory[80:], font.Small())
			copy(memory[160:], font.Big())
			copy(memory[512:], rom)
			if !bytes.Equal(s.Mem.Bytes(0, 65536), memory) || len(s.Mem.Dirty()) != 0 {
				t.Errorf("the memory for a ROM of %d bytes differs, or its log is not empty", len(rom))
			}
			if s.Random.Count() != 0 || !bytes.Equal(s.Random.List(), list) {
				t.Errorf("the stream has read %d bytes of %d", s.Random.Count(), len(s.Random.List()))
			}
		}
	}
}

// P19.1: a ROM that is too long.
func TestNewTooLong(t *testing.T) {
	for _, n := range []int{65025, 65026, 65536, 70000, 1 << 20} {
		if s, e := New(make([]byte, n), []byte{1}); s != nil || e != api.ErrROM {
			t.Errorf("New with %d bytes = %v, %v", n, s, e)
		}
	}
}

// P19.4: New changes neither its arguments nor the capacity behind them, and retains nothing of them.
func TestNewArguments(t *testing.T) {
	rom, list := []byte{1, 2, 3, 4, 5, 6}, []byte{11, 12, 13, 14}
	s, _ := New(rom[:4], list[:2])
	Exec(s, api.Instr{Op: api.Random, NN: 255, Len: 2}, chip8)
	s.I = 512
	Exec(s, api.Instr{Op: api.Store, X: 15, Len: 2}, chip8)
	if !bytes.Equal(rom, []byte{1, 2, 3, 4, 5, 6}) || !bytes.Equal(list, []byte{11, 12, 13, 14}) {
		t.Errorf("the arguments are %v and %v now", rom, list)
	}
	s, _ = New(rom[:4], list[:2])
	copy(rom, "changed")
	copy(list, "changed")
	if !bytes.Equal(s.Mem.Bytes(512, 5), []byte{1, 2, 3, 4, 0}) || !bytes.Equal(s.Random.List(), []byte{11, 12}) {
		t.Errorf("the state has %v and %v", s.Mem.Bytes(512, 5), s.Random.List())
	}
}

// P19.2: the chapter's example.
func TestExample(t *testing.T) {
	s := full(t)
	s.I = 65535
	checkNext(t, s, 0xF055, chip8, func(s *State) {
		s.Mem.Write(65535, []byte{16})
		s.I = 0
	})
	checkNext(t, s, 0xF055, keepI(chip8), func(s *State) {
		s.Mem.Write(65535, []byte{16})
	})
}

// P19.2: operations on registers, with VX, VY and the quirks that they know.
func TestOperations(t *testing.T) {
	shift := with(chip8, func(p *api.Profile) { p.ShiftVY = true })
	reset := with(chip8, func(p *api.Profile) { p.LogicReset = true })
	for _, x := range []struct {
		opcode int
		p      api.Profile
		v4, vf byte // V4 is 84 before, V9 is 169, and VF is 15
	}{
		{0x64AB, chip8, 0xAB, 15}, {0x74FF, chip8, 83, 15}, {0x8490, chip8, 169, 15},
		{0x8491, chip8, 84 | 169, 15}, {0x8492, chip8, 84 & 169, 15}, {0x8493, chip8, 84 ^ 169, 15},
		{0x8491, reset, 84 | 169, 0}, {0x8492, reset, 84 & 169, 0}, {0x8493, reset, 84 ^ 169, 0},
		{0x8494, chip8, 253, 0}, {0x8495, chip8, 171, 0}, {0x8497, chip8, 85, 1},
		{0x8496, chip8, 42, 0}, {0x8496, shift, 84, 1}, {0x849E, chip8, 168, 0}, {0x849E, shift, 82, 1},
	} {
		s := full(t)
		checkNext(t, s, x.opcode, x.p, func(s *State) { s.V[4], s.V[15] = x.v4, x.vf })
	}
	s := full(t)
	s.V[15], s.V[2] = 200, 100
	checkNext(t, s, 0x8F24, chip8, func(s *State) { s.V[15] = 1 })
}

// P19.2: skips that compare. V1 is 33, and V2 is 50.
func TestSkips(t *testing.T) {
	for opcode, skips := range map[int]bool{
		0x3121: true, 0x3122: false, 0x4121: false, 0x4122: true,
		0x5110: true, 0x5120: false, 0x9110: false, 0x9120: true,
	} {
		checkNext(t, full(t), opcode, chip8, func(s *State) {
			if skips {
				s.PC += 2
			}
		})
	}
}

// P19.2: skips by keys. The keys 3 and 9 are down; the number of a key is the last digit of VX.
func TestSkipKeys(t *testing.T) {
	for _, vx := range []byte{3, 9, 19, 0xF3, 0xA9, 0, 4, 8, 0x30, 0x9F, 255} {
		s := full(t)
		s.V[7] = vx
		down := vx%16 == 3 || vx%16 == 9
		for opcode, skips := range map[int]bool{0xE79E: down, 0xE7A1: !down} {
			checkNext(t, s, opcode, chip8, func(s *State) {
				if skips {
					s.PC += 2
				}
			})
		}
	}
}

// P19.2: the length of what is skipped, for all levels, addresses at which PC is wrapped, and skips of all kinds.
func TestSkipLength(t *testing.T) {
	skips := []int{0x3121, 0x4122, 0x5110, 0x9120, 0xE79E, 0xE2A1}
	for _, p := range []api.Profile{chip8, schip, xochip, fault(xochip)} {
		for _, next := range [][2]byte{{0xF0, 0x00}, {0xF0, 0x01}, {0xF1, 0x00}, {0x00, 0xF0}, {0x00, 0x00}, {0x12, 0x00}} {
			for _, pc := range []int{0, 512, 65529, 65530, 65531, 65532, 65533, 65534, 65535} {
				s := full(t)
				s.PC, s.V[7] = pc, 3
				s.Mem.Write(pc+2, next[:])
				want := pc + 4
				if p.Level == api.XOChip && next == [2]byte{0xF0, 0x00} {
					want = pc + 6
				}
				for _, opcode := range skips {
					check(t, s, decoded(opcode, p.Level), p, Effect{}, func(s *State) { s.PC = want % 65536 })
				}
				// Nothing is skipped if the condition does not hold.
				check(t, s, decoded(0x3120, p.Level), p, Effect{}, func(s *State) { s.PC = (pc + 2) % 65536 })
			}
		}
	}
}

// P19.2: jumps, and I.
func TestJumps(t *testing.T) {
	jump := with(chip8, func(p *api.Profile) { p.JumpVX = true })
	for _, x := range []struct {
		opcode, pc int
		p          api.Profile
	}{
		{0x1000, 0, chip8}, {0x1300, 0x300, chip8}, {0x1FFF, 0xFFF, jump}, {0x1301, 0x301, xochip},
		{0xB400, 0x410, chip8}, {0xB400, 0x400 + 84, jump}, {0xB000, 16, jump}, {0xBFFF, 0xFFF + 16, xochip}, {0xBFFF, 0xFFF + 15, jump},
	} {
		check(t, full(t), decoded(x.opcode, x.p.Level), x.p, Effect{}, func(s *State) { s.PC = x.pc })
	}
	checkNext(t, full(t), 0xA000, chip8, func(s *State) { s.I = 0 })
	checkNext(t, full(t), 0xAFED, schip, func(s *State) { s.I = 0xFED })
	check(t, full(t), decoded(0xF000, api.XOChip), xochip, Effect{}, func(s *State) {
		s.I = 0x1234
		s.PC += 4
	})
}

// P19.2: what is added to I, and the addresses of glyphs.
func TestI(t *testing.T) {
	for _, x := range []struct {
		i    int
		v    byte
		want int
	}{{0, 0, 0}, {0x400, 255, 0x4FF}, {65535, 0, 65535}, {65535, 1, 0}, {65280, 255, 65535}, {65281, 255, 0}, {65535, 255, 254}} {
		s := full(t)
		s.I, s.V[13] = x.i, x.v
		for _, p := range []api.Profile{chip8, fault(xochip), keepI(xochip)} {
			checkNext(t, s, 0xFD1E, p, func(s *State) { s.I = x.want })
		}
	}
	for v := range 256 {
		s := full(t)
		s.V[13] = byte(v)
		checkNext(t, s, 0xFD29, chip8, func(s *State) { s.I = 80 + v%16*5 })
		checkNext(t, s, 0xFD30, schip, func(s *State) { s.I = 160 + v%16*10 })
	}
}

// P19.2: calls and returns. The address that is pushed is wrapped.
func TestCalls(t *testing.T) {
	for _, pc := range []int{0, 512, 65533, 65534, 65535} {
		s := full(t)
		s.PC = pc
		check(t, s, decoded(0x2ABC, api.Chip8), fault(chip8), Effect{}, func(s *State) {
			s.Stack.Slots[2], s.Stack.Depth = (pc+2)%65536, 3
			s.PC = 0xABC
		})
		check(t, s, decoded(0x00EE, api.Chip8), chip8, Effect{}, func(s *State) {
			s.Stack.Slots[1], s.Stack.Depth = 0, 1
			s.PC = 0x444
		})
	}
}

// P19.2: 16 calls fit on the stack; the next one fails, and so does a return on the empty stack.
func TestCallDepth(t *testing.T) {
	s, _ := New(nil, nil)
	for range 2 {
		checkFailure(t, s, 0x00EE, chip8, api.ErrReturn)
		for i := range 16 {
			if e := Exec(s, decoded(0x2300+2*i, api.Chip8), chip8); e != (Effect{}) || s.Stack.Depth != i+1 {
				t.Fatalf("call %d: %+v, depth %d", i, e, s.Stack.Depth)
			}
		}
		checkFailure(t, s, 0x2400, chip8, api.ErrOverflow)
		for i := range 16 {
			want := 0x300 + 2*(15-i)
			if i == 15 {
				want = 514
			}
			if e := Exec(s, decoded(0x00EE, api.Chip8), chip8); e != (Effect{}) || s.PC != want {
				t.Fatalf("return %d: %+v, PC %x, want %x", i, e, s.PC, want)
			}
		}
		s.PC = 512
	}
}

// P19.2: illegal instructions fail.
func TestIllegal(t *testing.T) {
	for opcode, l := range map[int][]api.Profile{
		0x0000: {chip8, schip, xochip}, 0x0123: {chip8, schip, xochip}, 0x5121: {chip8, schip, xochip}, 0xFFFF: {chip8, schip, xochip},
		0x00FD: {chip8}, 0xD120: {chip8}, 0xF175: {chip8}, 0x00FF: {chip8},
		0xF000: {chip8, schip}, 0x5122: {chip8, schip}, 0xF101: {chip8, schip}, 0xF875: {chip8, schip},
	} {
		for _, p := range l {
			checkFailure(t, full(t), opcode, p, api.ErrIllegal)
			checkFailure(t, full(t), opcode, fault(p), api.ErrIllegal)
		}
	}
}

// P19.2: PC is wrapped after all instructions that are followed by the next one.
func TestNextWraps(t *testing.T) {
	for _, pc := range []int{65532, 65533, 65534, 65535} {
		for _, p := range []api.Profile{xochip, fault(xochip)} {
			s := full(t)
			s.PC = pc
			check(t, s, decoded(0x6577, p.Level), p, Effect{}, func(s *State) { s.V[5], s.PC = 0x77, (pc+2)%65536 })
			check(t, s, decoded(0xF000, p.Level), p, Effect{}, func(s *State) { s.I, s.PC = 0x1234, (pc+4)%65536 })
			check(t, s, decoded(0xF50A, p.Level), p, Effect{Wait: true}, func(s *State) { s.PC = (pc + 2) % 65536 })
			check(t, s, decoded(0x00FD, p.Level), p, Effect{Halt: true}, unchanged)
		}
	}
}

// P19.2: each random number takes one byte of the stream, also for a NN of 0.
func TestRandom(t *testing.T) {
	s := full(t) // the next bytes are 0x0F, 0x81, and 0xF3
	for _, x := range []struct {
		opcode int
		x      int
		want   byte
	}{{0xC1FF, 1, 0x0F}, {0xC200, 2, 0}, {0xCFF0, 15, 0xF0}, {0xC05A, 0, 0x0A}} {
		checkNext(t, s, x.opcode, chip8, func(s *State) {
			s.Random.Next()
			s.V[x.x] = x.want
		})
		Exec(s, decoded(x.opcode, api.Chip8), chip8)
	}
	if s.Random.Count() != 5 {
		t.Errorf("%d bytes were read", s.Random.Count())
	}
}

// P19.2: timers, flags, pattern and pitch.
func TestDevices(t *testing.T) {
	checkNext(t, full(t), 0xF607, chip8, func(s *State) { s.V[6] = 77 })
	checkNext(t, full(t), 0xF615, chip8, func(s *State) { s.Timers.Delay = 118 })
	checkNext(t, full(t), 0xF618, chip8, func(s *State) { s.Timers.Sound = 118 })
	checkNext(t, full(t), 0xF63A, xochip, func(s *State) { s.Audio.Pitch = 118 })
	for x := range 16 {
		for _, p := range []api.Profile{schip, xochip} {
			if x > 7 && p.Level == api.SuperChip {
				continue // there are no such instructions
			}
			checkNext(t, full(t), 0xF075+x<<8, p, func(s *State) { copy(s.Flags.V[:x+1], s.V[:]) })
			checkNext(t, full(t), 0xF085+x<<8, p, func(s *State) { copy(s.V[:x+1], s.Flags.V[:]) })
		}
	}
	for _, i := range []int{0, 0x400, 65520, 65521, 65535} {
		s := full(t)
		s.I = i
		checkNext(t, s, 0xF002, keepI(xochip), func(s *State) {
			for k := range 16 {
				s.Audio.Pattern[k] = s.Mem.Read(i + k)
			}
		})
	}
}

// P19.2: the digits of a byte, also at the end of the memory. I stays.
func TestDecimal(t *testing.T) {
	for _, i := range []int{0, 0x400, 65533, 65534, 65535} {
		for v, digits := range map[byte][]byte{0: {0, 0, 0}, 7: {0, 0, 7}, 45: {0, 4, 5}, 209: {2, 0, 9}, 255: {2, 5, 5}} {
			s := full(t)
			s.I, s.V[11] = i, v
			checkNext(t, s, 0xFB33, chip8, func(s *State) { s.Mem.Write(i, digits) })
		}
	}
}

// P19.2: storing and loading of the first registers, with and without the quirk KeepI.
func TestStoreAndLoad(t *testing.T) {
	for x := range 16 {
		for _, i := range []int{0, 0x400, 65519, 65520, 65521, 65534, 65535} {
			for _, p := range []api.Profile{chip8, keepI(xochip)} {
				s := full(t)
				s.I = i
				after := i
				if !p.KeepI {
					after = (i + x + 1) % 65536
				}
				checkNext(t, s, 0xF055+x<<8, p, func(s *State) {
					s.Mem.Write(i, s.V[:x+1])
					s.I = after
				})
				checkNext(t, s, 0xF065+x<<8, p, func(s *State) {
					for k := range x + 1 {
						s.V[k] = s.Mem.Read(i + k)
					}
					s.I = after
				})
			}
		}
	}
}

// P19.2: storing and loading of a range of registers, in both orders. I stays.
func TestRanges(t *testing.T) {
	checkNext(t, full(t), 0x5132, xochip, func(s *State) { s.Mem.Write(0x400, []byte{33, 50, 67}) })
	checkNext(t, full(t), 0x5312, xochip, func(s *State) { s.Mem.Write(0x400, []byte{67, 50, 33}) })
	checkNext(t, full(t), 0x5332, xochip, func(s *State) { s.Mem.Write(0x400, []byte{67}) })
	for x := range 16 {
		for y := range 16 {
			s := full(t)
			s.I = 65530
			at := func(k int) int { // the number of the register with the distance k from VX
				if x > y {
					return x - k
				}
				return x + k
			}
			n := max(x-y, y-x) + 1
			checkNext(t, s, 0x5002+x<<8+y<<4, xochip, func(s *State) {
				var list []byte
				for k := range n {
					list = append(list, s.V[at(k)])
				}
				s.Mem.Write(65530, list)
			})
			checkNext(t, s, 0x5003+x<<8+y<<4, keepI(xochip), func(s *State) {
				for k := range n {
					s.V[at(k)] = s.Mem.Read(65530 + k)
				}
			})
		}
	}
}

// P19.2: under the quirk Fault, a span may end at the end of the memory, but not behind it; without the quirk, it is wrapped.
func TestFaults(t *testing.T) {
	spans := map[int]int{0xF133: 3, 0xF002: 16, 0xD121: 2, 0xD12F: 30, 0xD120: 64} // two planes are selected
	for x := range 16 {
		spans[0xF055+x<<8], spans[0xF065+x<<8] = x+1, x+1
		for y := range 16 {
			n := max(x-y, y-x) + 1
			spans[0x5002+x<<8+y<<4], spans[0x5003+x<<8+y<<4] = n, n
		}
	}
	wait := with(fault(xochip), func(p *api.Profile) { p.DisplayWait = true })
	for opcode, n := range spans {
		s := full(t)
		s.I = 65536 - n
		if e := Exec(Clone(s), decoded(opcode, api.XOChip), fault(xochip)); e != (Effect{}) {
			t.Errorf("%04X at %d: %+v", opcode, s.I, e)
		}
		if n == 1 {
			continue // it never leaves the memory
		}
		for _, i := range []int{65537 - n, 65535} {
			s.I = i
			checkFailure(t, s, opcode, fault(xochip), api.ErrRange)
			checkFailure(t, s, opcode, wait, api.ErrRange)
			if e := Exec(Clone(s), decoded(opcode, api.XOChip), xochip); e != (Effect{}) {
				t.Errorf("%04X at %d without the quirk: %+v", opcode, s.I, e)
			}
		}
	}
}

// P19.2: an instruction that fails leaves the log of the memory as it is.
func TestFailureKeepsLog(t *testing.T) {
	s := full(t)
	s.I = 65535
	s.Mem.Write(1000, []byte{1, 2})
	if e := Exec(s, decoded(0xF155, api.Chip8), fault(chip8)); e != (Effect{Cause: api.ErrRange}) {
		t.Error(e)
	}
	if log := s.Mem.Dirty(); !slices.Equal(log, []mem.Range{{At: 1000, Len: 2}}) {
		t.Error(log)
	}
}

// P19.2: the number of bytes that a sprite reads follows from the Mask; with the Mask 0, it is 0, and nothing is drawn.
func TestDrawMask(t *testing.T) {
	for mask := range 16 {
		planes := mask&1 + mask>>1&1 + mask>>2&1 + mask>>3&1
		for opcode, rows := range map[int]int{0xD121: 1, 0xD125: 5, 0xD12F: 15, 0xD120: 32} {
			s := full(t)
			s.Screen.Mask = mask
			s.I = 65536 - planes*rows
			if planes == 0 {
				s.I = 65535
				checkNext(t, s, opcode, fault(xochip), func(s *State) { s.V[15] = 0 })
				continue
			}
			big := opcode == 0xD120
			drawn, hit := screen.Draw(s.Screen, 33, 50, rows, big, false, s.Mem.Bytes(s.I, planes*rows))
			checkNext(t, s, opcode, fault(xochip), func(s *State) {
				s.Screen, s.V[15] = drawn, 0
				if hit {
					s.V[15] = 1
				}
			})
			s.I++
			checkFailure(t, s, opcode, fault(xochip), api.ErrRange)
		}
	}
}

// P19.2: pixels that are written out: where a sprite is, with and without clipping, and what is left of it if it is drawn twice.
func TestDrawPixels(t *testing.T) {
	s, _ := New(nil, nil)
	s.I = 0x400
	s.Mem.Write(0x400, []byte{0xC0, 0x80})
	s.V[1], s.V[2], s.V[15] = 63, 31, 9
	for _, x := range []struct {
		clip bool
		want [][2]int
	}{{false, [][2]int{{63, 0}, {0, 31}, {63, 31}}}, {true, [][2]int{{63, 31}}}} {
		c := Clone(s)
		p := with(chip8, func(p *api.Profile) { p.Clip = x.clip })
		if e := Exec(c, decoded(0xD122, api.Chip8), p); e != (Effect{}) || c.V[15] != 0 || !slices.Equal(pixels(c), x.want) {
			t.Errorf("clip %t: %+v, VF %d, %v", x.clip, e, c.V[15], pixels(c))
		}
		if e := Exec(c, decoded(0xD122, api.Chip8), p); e != (Effect{}) || c.V[15] != 1 || pixels(c) != nil || c.I != 0x400 {
			t.Errorf("clip %t, again: %+v, VF %d, %v", x.clip, e, c.V[15], pixels(c))
		}
	}
	// A big sprite has 16 bits in each row; here, there is one in the first row, and one in the last one.
	s.Mem.Write(0x400, make([]byte, 32))
	s.Mem.Write(0x401, []byte{1})
	s.Mem.Write(0x41E, []byte{0x80})
	s.V[1], s.V[2] = 70, 34
	if e := Exec(s, decoded(0xD120, api.SuperChip), schip); e != (Effect{}) || !slices.Equal(pixels(s), [][2]int{{21, 2}, {6, 17}}) {
		t.Errorf("big: %+v, %v", e, pixels(s))
	}
}

// pixels returns the positions of all pixels of the low resolution, row by row.
func pixels(s *State) [][2]int {
	var l [][2]int
	for y := range 32 {
		for x := range 64 {
			if screen.Color(s.Screen, x, y) != 0 {
				l = append(l, [2]int{x, y})
			}
		}
	}
	return l
}

// P19.2: VF as the position of a sprite is read before the collision is stored in it.
func TestDrawFlagRegister(t *testing.T) {
	s, _ := New(nil, nil)
	s.I = 0x400
	s.Mem.Write(0x400, []byte{0x80})
	s.V[15], s.V[1] = 20, 5
	checkNext(t, s, 0xDF11, chip8, func(s *State) {
		s.Screen, _ = screen.Draw(s.Screen, 20, 5, 1, false, false, []byte{0x80})
		s.V[15] = 0
	})
	checkNext(t, s, 0xD1F1, chip8, func(s *State) {
		s.Screen, _ = screen.Draw(s.Screen, 5, 20, 1, false, false, []byte{0x80})
		s.V[15] = 0
	})
}

// P19.2: only a sprite that is drawn in the low resolution under DisplayWait has the effect Drew.
func TestDrew(t *testing.T) {
	for _, level := range []int{api.Chip8, api.SuperChip, api.XOChip} {
		for _, p := range profiles(level) {
			for _, hires := range []bool{false, true} {
				for _, opcode := range []int{0xD121, 0xD120} {
					s, _ := New(nil, nil)
					s.Screen.Hires = hires
					want := Effect{Drew: p.DisplayWait && !hires}
					if opcode == 0xD120 && level == api.Chip8 {
						want = Effect{Cause: api.ErrIllegal}
					}
					if e := Exec(s, decoded(opcode, level), p); e != want {
						t.Errorf("%04X, hires %t, %+v: %+v", opcode, hires, p, e)
					}
				}
			}
		}
	}
}

// P19.2: what changes the screen, apart from sprites. The other planes stay as they are.
func TestScreen(t *testing.T) {
	for _, hires := range []bool{false, true} {
		s := full(t)
		s.Screen.Hires = hires
		set := func(f func(screen.Screen) screen.Screen) func(s *State) {
			return func(s *State) { s.Screen = f(s.Screen) }
		}
		scroll := func(dx, dy int) func(s *State) {
			return set(func(s screen.Screen) screen.Screen { return screen.Scroll(s, dx, dy) })
		}
		checkNext(t, s, 0x00E0, chip8, set(screen.Clear))
		checkNext(t, s, 0x00FB, schip, scroll(4, 0))
		checkNext(t, s, 0x00FC, schip, scroll(-4, 0))
		for n := range 16 {
			checkNext(t, s, 0x00C0+n, schip, scroll(0, n))
			checkNext(t, s, 0x00D0+n, xochip, scroll(0, -n))
			checkNext(t, s, 0xF001+n<<8, xochip, func(s *State) { s.Screen.Mask = n })
		}
		checkNext(t, s, 0x00FE, schip, func(s *State) { s.Screen = screen.Screen{Mask: 6} })
		checkNext(t, s, 0x00FF, schip, func(s *State) { s.Screen = screen.Screen{Hires: true, Mask: 6} })
	}
}

// P19.2: a machine that waits goes on behind the instruction; one that halts stays at it.
func TestWaitAndExit(t *testing.T) {
	for x := range 16 {
		check(t, full(t), decoded(0xF00A+x<<8, api.Chip8), chip8, Effect{Wait: true}, func(s *State) { s.PC += 2 })
	}
	check(t, full(t), decoded(0x00FD, api.SuperChip), schip, Effect{Halt: true}, unchanged)
	check(t, full(t), decoded(0x00FD, api.XOChip), fault(xochip), Effect{Halt: true}, unchanged)
}

// P19.3
func TestClone(t *testing.T) {
	s, twin := full(t), full(t)
	s.Mem.Write(700, []byte{4, 5, 6})
	twin.Mem.Write(700, []byte{4, 5, 6})
	c := Clone(s)
	if c == s || c.Mem == s.Mem || c.Random == s.Random {
		t.Error("the clone shares memory")
	}
	compare(t, c, s)
	if log := c.Mem.Dirty(); len(log) != 0 {
		t.Errorf("the log of the clone is %v", log)
	}
	change(c)
	compare(t, s, twin)
	if log := s.Mem.Dirty(); !slices.Equal(log, []mem.Range{{At: 700, Len: 3}}) {
		t.Errorf("the log is %v", log)
	}
	c = Clone(s)
	change(s)
	compare(t, c, twin)
	if Clone(nil) != nil {
		t.Error("the clone of nil is not nil")
	}
}

// change changes all parts of a state, most of them by instructions.
func change(s *State) {
	for _, opcode := range []int{0xC0FF, 0xF015, 0xF018, 0xFF75, 0xF002, 0xF03A, 0x00C1, 0xFF55, 0xF101, 0x2345} {
		Exec(s, decoded(opcode, api.XOChip), xochip)
	}
	s.Pad.Down[0] = true
}

// For arguments that are not specified, the functions only end without a panic.
func TestWrongArguments(t *testing.T) {
	if e := Exec(nil, decoded(0x6112, api.Chip8), chip8); e != (Effect{}) {
		t.Error(e)
	}
	numbers := []int{-1, -2, -16, -65537, math.MinInt, 16, 17, 256, 65536, 1 << 32, math.MaxInt}
	for op := -1; op <= api.SetPitch+1; op++ {
		for _, n := range numbers {
			for _, p := range []api.Profile{{}, {Level: n, Fault: true}, xochip} {
				s := full(t)
				Exec(s, api.Instr{Op: op, X: n, Y: n, N: n, NN: n, Addr: n, Len: n}, p)
				s.I, s.PC, s.Screen.Mask, s.Stack.Depth = n, n, n, n
				Exec(s, api.Instr{Op: op, X: n, Y: 3, N: n, NN: n, Addr: n, Len: 2}, p)
				Exec(&State{}, api.Instr{Op: op, X: 1, Y: 3, N: 5, NN: 7, Addr: 9, Len: 2}, p)
			}
		}
	}
	if c := Clone(&State{}); c == nil || c.Mem != nil || c.Random != nil {
		t.Error("the clone of the zero State")
	}
}
