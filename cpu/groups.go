package cpu

import (
	"cosmac/addr"
	"cosmac/alu"
	"cosmac/api"
	"cosmac/audio"
	"cosmac/decode"
	"cosmac/flags"
	"cosmac/keypad"
	"cosmac/screen"
	"cosmac/stack"
)

const (
	flagRegister = registerCount - 1
	scrollStep   = 4 // of the scrolls to the right and to the left
)

// The functions below execute operations on registers, and skips.

func (r *run) operate() { r.s.V, _ = alu.Do(r.s.V, r.in, r.p) }

func (r *run) compare() {
	holds, _ := alu.Skips(r.s.V, r.in)
	r.skipIf(holds)
}

func (r *run) skipKey() {
	r.skipIf(keypad.IsDown(r.s.Pad, int(*r.vx())) == (r.in.Op == api.SkipKey))
}

// skipIf skips the next instruction if a condition holds.
func (r *run) skipIf(holds bool) {
	if holds {
		high, low := r.s.Mem.Read(r.pc), r.s.Mem.Read(r.pc+1)
		r.pc = addr.Wrap(r.pc + decode.SkipLen(high, low, r.p.Level))
	}
}

// The functions below execute jumps, and what a machine stops at.

func (r *run) jump() { r.pc = r.in.Addr }

func (r *run) jumpAdd() {
	offset := r.s.V[0]
	if r.p.JumpVX {
		offset = *r.vx()
	}
	r.pc = addr.Wrap(r.in.Addr + int(offset))
}

func (r *run) call() {
	pushed, err := stack.Push(r.s.Stack, r.pc)
	ensure(err)
	r.s.Stack = pushed
	r.pc = r.in.Addr
}

func (r *run) goBack() {
	popped, top, err := stack.Pop(r.s.Stack)
	ensure(err)
	r.s.Stack = popped
	r.pc = top
}

func (r *run) exit() {
	r.pc = r.s.PC
	r.effect.Halt = true
}

func (r *run) waitKey() { r.effect.Wait = true }

// The functions below execute what sets I, and what reads or writes the memory at I.

func (r *run) setI() { r.s.I = r.in.Addr }

func (r *run) addI() { r.addToI(int(*r.vx())) }

// glyph returns a function that sets I to the address that at returns for the glyph of a digit.
func glyph(at func(digit int) int) func(r *run) {
	return func(r *run) { r.s.I = at(int(*r.vx())) }
}

func (r *run) decimal() {
	digits := alu.Digits(*r.vx())
	r.write(digits[:])
}

func (r *run) store() {
	n := register(r.in.X) + 1
	r.write(r.s.V[:n])
	r.passI(n)
}

func (r *run) load() {
	n := register(r.in.X) + 1
	copy(r.s.V[:], r.read(n))
	r.passI(n)
}

func (r *run) storeRange() {
	var list []byte
	for _, i := range r.between() {
		list = append(list, r.s.V[i])
	}
	r.write(list)
}

func (r *run) loadRange() {
	numbers := r.between()
	for i, b := range r.read(len(numbers)) {
		r.s.V[numbers[i]] = b
	}
}

// The functions below execute what changes the screen.

func (r *run) clear() { r.s.Screen = screen.Clear(r.s.Screen) }

func (r *run) resolution() { r.s.Screen = screen.Resolution(r.s.Screen, r.in.Op == api.HighRes) }

func (r *run) setPlanes() { r.s.Screen = screen.Select(r.s.Screen, r.in.N) }

func (r *run) scroll() {
	dx, dy := 0, 0
	switch r.in.Op {
	case api.ScrollDown:
		dy = r.in.N
	case api.ScrollUp:
		dy = -r.in.N
	case api.ScrollRight:
		dx = scrollStep
	case api.ScrollLeft:
		dx = -scrollStep
	}
	r.s.Screen = screen.Scroll(r.s.Screen, dx, dy)
}

func (r *run) draw() {
	isBig := r.in.Op == api.DrawBig
	data := r.read(screen.Need(r.s.Screen, r.in.N, isBig))
	x, y := int(*r.vx()), int(*r.vy())
	drawn, collision := screen.Draw(r.s.Screen, x, y, r.in.N, isBig, r.p.Clip, data)
	r.s.Screen = drawn
	r.s.V[flagRegister] = 0
	if collision {
		r.s.V[flagRegister] = 1
	}
	r.effect.Drew = r.p.DisplayWait && !drawn.Hires
}

// The functions below execute what uses the other devices.

func (r *run) random() { *r.vx() = r.s.Random.Next() & byte(r.in.NN) }

func (r *run) saveFlags() { r.s.Flags = flags.Save(r.s.Flags, r.s.V[:register(r.in.X)+1]) }

func (r *run) loadFlags() { copy(r.s.V[:], flags.Load(r.s.Flags, register(r.in.X)+1)) }

func (r *run) getDelay() { *r.vx() = r.s.Timers.Delay }

func (r *run) setDelay() { r.s.Timers.Delay = *r.vx() }

func (r *run) setSound() { r.s.Timers.Sound = *r.vx() }

func (r *run) setPattern() { r.s.Audio = audio.Load(r.s.Audio, r.read(api.Pattern)) }

func (r *run) setPitch() { r.s.Audio = audio.Tune(r.s.Audio, *r.vx()) }

// The functions below are parts of several instructions.

// vx returns the register VX.
func (r *run) vx() *byte { return &r.s.V[register(r.in.X)] }

// vy returns the register VY.
func (r *run) vy() *byte { return &r.s.V[register(r.in.Y)] }

// between returns the numbers of the registers from VX to VY, in descending order if X is greater.
func (r *run) between() []int {
	x, y := register(r.in.X), register(r.in.Y)
	list := []int{x}
	for x != y {
		if x < y {
			x++
		} else {
			x--
		}
		list = append(list, x)
	}
	return list
}

// read returns the bytes of the span of n bytes at I.
func (r *run) read(n int) []byte {
	ensure(addr.Check(r.s.I, n, r.p.Fault))
	return r.s.Mem.Bytes(r.s.I, n)
}

// write writes bytes to their span at I.
func (r *run) write(b []byte) {
	ensure(addr.Check(r.s.I, len(b), r.p.Fault))
	r.s.Mem.Write(r.s.I, b)
}

// passI sets I behind the span of n bytes that was read or written, unless the quirk keeps I.
func (r *run) passI(n int) {
	if !r.p.KeepI {
		r.addToI(n)
	}
}

// addToI increases I, wrapped.
func (r *run) addToI(n int) { r.s.I = addr.Wrap(r.s.I + n) }

// register returns the number of a register. It is limited to its last digit, as an index beyond the registers would fail for a number that no instruction has.
func register(n int) int { return n & (registerCount - 1) }
