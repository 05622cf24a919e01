package cpu

import (
	"bytes"
	"math/rand/v2"
	"slices"
	"testing"

	"cosmac/alu"
	"cosmac/api"
	"cosmac/decode"
	"cosmac/mem"
	"cosmac/screen"
)

// edges are addresses at which spans and PC may be wrapped.
var edges = []int{0, 1, 2, 65503, 65504, 65505, 65519, 65520, 65521, 65531, 65532, 65533, 65534, 65535}

// model is a state whose memory and stream are a list of bytes, and a list with the number of bytes that were read.
type model struct {
	State
	bytes []byte
	log   []mem.Range
	list  []byte
	read  int
}

// modelOf returns the model of a state with an empty log.
func modelOf(s *State) *model {
	m := &model{State: *s, bytes: s.Mem.Bytes(0, 65536), list: s.Random.List(), read: s.Random.Count()}
	m.Mem, m.Random = nil, nil
	return m
}

// skip returns the number by which PC is increased for a skip from next on.
func (m *model) skip(next int, holds bool, level int) int {
	switch {
	case !holds:
		return 0
	case level == 3 && m.bytes[next] == 0xF0 && m.bytes[(next+1)%65536] == 0:
		return 4
	}
	return 2
}

// span returns the addresses of the span of n bytes at I, and whether it may be used.
func (m *model) span(n int, p api.Profile) ([]int, bool) {
	var l []int
	for k := range n {
		l = append(l, (m.I+k)%65536)
	}
	return l, !p.Fault || m.I+n <= 65536
}

// write writes bytes at I, one by one, or reports that this fails.
func (m *model) write(b []byte, p api.Profile) bool {
	l, ok := m.span(len(b), p)
	if ok {
		for k, a := range l {
			m.bytes[a] = b[k]
		}
		m.log = append(m.log, mem.Range{At: m.I, Len: len(b)})
	}
	return ok
}

// load returns n bytes at I, or reports that this fails.
func (m *model) load(n int, p api.Profile) ([]byte, bool) {
	l, ok := m.span(n, p)
	b := []byte{}
	for _, a := range l {
		b = append(b, m.bytes[a])
	}
	return b, ok
}

// numbers returns the numbers from x to y, in this order.
func numbers(x, y int) []int {
	var l []int
	for k := min(x, y); k <= max(x, y); k++ {
		l = append(l, k)
	}
	if x > y {
		slices.Reverse(l)
	}
	return l
}

// exec does what the chapter's table tells, and returns the effect.
func (m *model) exec(in api.Instr, p api.Profile) Effect {
	rangeFault := Effect{Cause: api.ErrRange}
	vx, vy := int(m.V[in.X]), int(m.V[in.Y])
	next := (m.PC + in.Len) % 65536
	var e Effect
	switch in.Op {
	case api.Illegal:
		return Effect{Cause: api.ErrIllegal}
	case api.SetNN, api.AddNN, api.Move, api.Or, api.And, api.Xor, api.Add, api.Sub, api.SubFrom, api.ShiftRight, api.ShiftLeft:
		m.V, _ = alu.Do(m.V, in, p)
	case api.SkipEqNN:
		next += m.skip(next, vx == in.NN, p.Level)
	case api.SkipNeNN:
		next += m.skip(next, vx != in.NN, p.Level)
	case api.SkipEqVY:
		next += m.skip(next, vx == vy, p.Level)
	case api.SkipNeVY:
		next += m.skip(next, vx != vy, p.Level)
	case api.SkipKey:
		next += m.skip(next, m.Pad.Down[vx%16], p.Level)
	case api.SkipNoKey:
		next += m.skip(next, !m.Pad.Down[vx%16], p.Level)
	case api.Return:
		if m.Stack.Depth == 0 {
			return Effect{Cause: api.ErrReturn}
		}
		m.Stack.Depth--
		next, m.Stack.Slots[m.Stack.Depth] = m.Stack.Slots[m.Stack.Depth], 0
	case api.Jump:
		next = in.Addr
	case api.Call:
		if m.Stack.Depth == 16 {
			return Effect{Cause: api.ErrOverflow}
		}
		next, m.Stack.Slots[m.Stack.Depth] = in.Addr, next
		m.Stack.Depth++
	case api.JumpAdd:
		next = in.Addr + int(m.V[0])
		if p.JumpVX {
			next = in.Addr + vx
		}
	case api.SetI, api.LongI:
		m.I = in.Addr
	case api.AddI:
		m.I = (m.I + vx) % 65536
	case api.Glyph:
		m.I = 80 + vx%16*5
	case api.BigGlyph:
		m.I = 160 + vx%16*10
	case api.Random:
		if len(m.list) > 0 {
			m.V[in.X] = m.list[m.read%len(m.list)] & byte(in.NN)
		} else {
			m.V[in.X] = 0
		}
		m.read++
	case api.WaitKey:
		e.Wait = true
	case api.Exit:
		next, e.Halt = m.PC, true
	case api.GetDelay:
		m.V[in.X] = m.Timers.Delay
	case api.SetDelay:
		m.Timers.Delay = byte(vx)
	case api.SetSound:
		m.Timers.Sound = byte(vx)
	case api.SaveFlags:
		copy(m.Flags.V[:in.X+1], m.V[:])
	case api.LoadFlags:
		copy(m.V[:in.X+1], m.Flags.V[:])
	case api.SetPitch:
		m.Audio.Pitch = byte(vx)
	default:
		used, fails := m.execMemory(in, p)
		if fails {
			return rangeFault
		}
		if !used {
			m.execScreen(in)
		}
		if in.Op == api.Draw || in.Op == api.DrawBig {
			e.Drew = p.DisplayWait && !m.Screen.Hires
		}
	}
	m.PC = next % 65536
	return e
}

// execMemory does this for the instructions that use spans of the memory, and reports whether it is one of them, and whether it fails.
func (m *model) execMemory(in api.Instr, p api.Profile) (used, fails bool) {
	ok, vx := true, m.V[in.X]
	var b []byte
	switch in.Op {
	case api.Decimal:
		ok = m.write([]byte{vx / 100, vx / 10 % 10, vx % 10}, p)
	case api.Store, api.Load:
		if in.Op == api.Store {
			ok = m.write(m.V[:in.X+1], p)
		} else if b, ok = m.load(in.X+1, p); ok {
			copy(m.V[:], b)
		}
		if ok && !p.KeepI {
			m.I = (m.I + in.X + 1) % 65536
		}
	case api.StoreRange:
		for _, k := range numbers(in.X, in.Y) {
			b = append(b, m.V[k])
		}
		ok = m.write(b, p)
	case api.LoadRange:
		l := numbers(in.X, in.Y)
		if b, ok = m.load(len(l), p); ok {
			for k := range l {
				m.V[l[k]] = b[k]
			}
		}
	case api.SetPattern:
		if b, ok = m.load(16, p); ok {
			m.Audio.Pattern = [16]byte(b)
		}
	case api.Draw, api.DrawBig:
		big := in.Op == api.DrawBig
		if b, ok = m.load(screen.Need(m.Screen, in.N, big), p); ok {
			drawn, hit := screen.Draw(m.Screen, int(vx), int(m.V[in.Y]), in.N, big, p.Clip, b)
			m.Screen, m.V[15] = drawn, 0
			if hit {
				m.V[15] = 1
			}
		}
	default:
		return false, false
	}
	return true, !ok
}

// execScreen does this for the instructions that change the screen, but sprites.
func (m *model) execScreen(in api.Instr) {
	switch in.Op {
	case api.Clear:
		m.Screen = screen.Clear(m.Screen)
	case api.LowRes:
		m.Screen = screen.Screen{Hires: false, Mask: m.Screen.Mask}
	case api.HighRes:
		m.Screen = screen.Screen{Hires: true, Mask: m.Screen.Mask}
	case api.SetPlanes:
		m.Screen.Mask = in.N
	case api.ScrollDown:
		m.Screen = screen.Scroll(m.Screen, 0, in.N)
	case api.ScrollUp:
		m.Screen = screen.Scroll(m.Screen, 0, -in.N)
	case api.ScrollRight:
		m.Screen = screen.Scroll(m.Screen, 4, 0)
	case api.ScrollLeft:
		m.Screen = screen.Scroll(m.Screen, -4, 0)
	default:
		panic("no instruction")
	}
}

// shuffle changes parts of the state and of its model in the same way.
func shuffle(r *rand.Rand, s *State, m *model) {
	for i := range s.V {
		switch r.IntN(4) {
		case 0:
			s.V[i] = byte(r.IntN(256))
		case 1:
			s.V[i] = s.V[r.IntN(16)]
		}
	}
	s.I, s.PC = r.IntN(65536), r.IntN(65536)
	if r.IntN(2) == 0 {
		s.I = edges[r.IntN(len(edges))]
	}
	if r.IntN(2) == 0 {
		s.PC = edges[r.IntN(len(edges))]
	}
	s.Pad.Down[r.IntN(16)] = r.IntN(2) == 0
	s.Timers.Delay = byte(r.IntN(256))
	s.Screen.Mask = r.IntN(16)
	depth := [...]int{0, 1, 15, 16}[r.IntN(4)]
	s.Stack.Slots, s.Stack.Depth = [16]int{}, depth
	for i := range depth {
		s.Stack.Slots[i] = r.IntN(65536)
	}
	if r.IntN(4) == 0 { // what a skip is over
		b := []byte{0xF0, byte(r.IntN(2))}
		s.Mem.Write(s.PC+2, b)
		s.Mem.Dirty()
		m.bytes[(s.PC+2)%65536], m.bytes[(s.PC+3)%65536] = b[0], b[1]
	}
	m.State = *s
	m.Mem, m.Random = nil, nil
}

// checkStep compares a step with that of the model, and reports whether they agree.
func checkStep(t *testing.T, s *State, m *model, in api.Instr, p api.Profile) bool {
	t.Helper()
	before := m.State
	m.log = nil
	want := m.exec(in, p)
	got := Exec(s, in, p)
	parts := *s
	parts.Mem, parts.Random = nil, nil
	switch log := s.Mem.Dirty(); {
	case got != want:
		t.Errorf("Exec(%+v, %+v) = %+v, want %+v", in, p, got, want)
	case parts != m.State:
		t.Errorf("Exec(%+v, %+v): V %v, I %d, PC %d, want V %v, I %d, PC %d, or another part differs", in, p, s.V, s.I, s.PC, m.V, m.I, m.PC)
	case want.Cause != api.OK && m.State != before:
		t.Errorf("the model of %+v changes something", in)
	case s.Random.Count() != m.read:
		t.Errorf("Exec(%+v, %+v): %d bytes were read, want %d", in, p, s.Random.Count(), m.read)
	case !slices.Equal(log, m.log):
		t.Errorf("Exec(%+v, %+v): the log is %v, want %v", in, p, log, m.log)
	}
	for _, l := range m.log {
		for k := range l.Len {
			if a := (l.At + k) % 65536; s.Mem.Read(a) != m.bytes[a] {
				t.Errorf("Exec(%+v, %+v): the byte at %d is %d, want %d", in, p, a, s.Mem.Read(a), m.bytes[a])
			}
		}
	}
	return !t.Failed()
}

// P19.2, P19.4: all opcodes of all levels, each under a few profiles and in other states, are executed as the model does.
func TestEveryOpcode(t *testing.T) {
	r := rand.New(rand.NewPCG(19, 1))
	for _, level := range []int{api.Chip8, api.SuperChip, api.XOChip} {
		s, m := full(t), modelOf(full(t))
		all := profiles(level)
		for opcode := range 1 << 16 {
			in := decode.Decode([4]byte{byte(opcode >> 8), byte(opcode), byte(r.IntN(256)), byte(r.IntN(256))}, level)
			shuffle(r, s, m)
			if !checkStep(t, s, m, in, all[r.IntN(len(all))]) {
				return
			}
		}
		if !bytes.Equal(s.Mem.Bytes(0, 65536), m.bytes) {
			t.Error("the memories differ")
		}
	}
}

// opcodes have one opcode, without its fields, for each Op.
var opcodes = []int{
	0x00E0, 0x00EE, 0x1000, 0x2000, 0x3000, 0x4000, 0x5000, 0x6000, 0x7000, 0x8000, 0x8001, 0x8002, 0x8003, 0x8004, 0x8005, 0x8006, 0x8007, 0x800E,
	0x9000, 0xA000, 0xB000, 0xC000, 0xD001, 0xE09E, 0xE0A1, 0xF007, 0xF00A, 0xF015, 0xF018, 0xF01E, 0xF029, 0xF033, 0xF055, 0xF065,
	0x00C0, 0x00FB, 0x00FC, 0x00FD, 0x00FE, 0x00FF, 0xD000, 0xF030, 0xF075, 0xF085, 0x00D0, 0x5002, 0x5003, 0xF000, 0xF001, 0xF002, 0xF03A,
}

// P19.2, P19.4: all Ops, under all profiles of the greatest level, in states that differ.
func TestEveryOp(t *testing.T) {
	r := rand.New(rand.NewPCG(19, 2))
	s, m := full(t), modelOf(full(t))
	for _, p := range profiles(api.XOChip) {
		for _, opcode := range opcodes {
			for range 20 {
				in := decode.Decode([4]byte{byte(opcode >> 8), byte(opcode), byte(r.IntN(256)), byte(r.IntN(256))}, api.XOChip)
				fill(r, &in)
				shuffle(r, s, m)
				if !checkStep(t, s, m, in, p) {
					return
				}
			}
		}
	}
	if !bytes.Equal(s.Mem.Bytes(0, 65536), m.bytes) {
		t.Error("the memories differ")
	}
}

// fill replaces those fields of an instruction that its opcode may have any digits for.
func fill(r *rand.Rand, in *api.Instr) {
	switch in.Op {
	case api.Jump, api.Call, api.SetI:
		in.Addr = r.IntN(4096)
	case api.JumpAdd:
		in.Addr = r.IntN(4096)
		in.X = in.Addr / 256
	case api.SkipEqNN, api.SkipNeNN, api.SetNN, api.AddNN, api.Random:
		in.X, in.NN = r.IntN(16), r.IntN(256)
	case api.ScrollDown, api.ScrollUp, api.SetPlanes:
		in.N = r.IntN(16)
	case api.Draw:
		in.X, in.Y, in.N = r.IntN(16), r.IntN(16), 1+r.IntN(15)
	case api.SkipEqVY, api.SkipNeVY, api.StoreRange, api.LoadRange, api.DrawBig, api.Move, api.Or, api.And, api.Xor,
		api.Add, api.Sub, api.SubFrom, api.ShiftRight, api.ShiftLeft:
		in.X, in.Y = r.IntN(16), r.IntN(16)
	case api.Clear, api.Return, api.ScrollRight, api.ScrollLeft, api.Exit, api.LowRes, api.HighRes, api.LongI, api.SetPattern:
	default:
		in.X = r.IntN(16)
	}
}

// P19.2: the random numbers of the empty list are zeros.
func TestRandomOfEmptyList(t *testing.T) {
	s, e := New(nil, nil)
	if e != api.OK {
		t.Fatal(e)
	}
	m := modelOf(s)
	for range 3 {
		s.V[4], m.V[4] = 9, 9
		checkStep(t, s, m, decoded(0xC4FF, api.Chip8), chip8)
	}
}
