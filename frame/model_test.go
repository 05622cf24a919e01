package frame

import (
	"math/rand/v2"
	"testing"

	"cosmac/api"
	"cosmac/cpu"
	"cosmac/decode"
	"cosmac/keypad"
	"cosmac/machine"
	"cosmac/profile"
)

// model is a console without a cache, which does what the chapters tell of machines and frames.
type model struct {
	p api.Profile
	x machine.Snapshot
}

// newModel returns the model of an initial machine.
func newModel(t *testing.T, c machine.Config) *model {
	t.Helper()
	s, e := cpu.New(c.ROM, c.List)
	if e != api.OK {
		t.Fatal(e)
	}
	return &model{p: c.Profile, x: machine.Snapshot{State: s}}
}

// step executes the next instruction, which it decodes anew, and reports whether it drew.
func (k *model) step() bool {
	s, x := k.x.State, &k.x
	pc := s.PC
	in := decode.Decode([4]byte{s.Mem.Read(pc), s.Mem.Read(pc + 1), s.Mem.Read(pc + 2), s.Mem.Read(pc + 3)}, k.p.Level)
	e := cpu.Effect{Cause: api.ErrRange}
	if !k.p.Fault || pc+in.Len <= size {
		e = cpu.Exec(s, in, k.p)
	}
	if e.Cause != api.OK {
		x.Status = api.Status{Kind: api.Faulted, Cause: e.Cause, PC: pc, Cycle: x.Executed}
	}
	if e.Halt {
		x.Status = api.Status{Kind: api.Halted, PC: pc, Cycle: x.Executed}
	}
	if e.Wait {
		x.Status.Kind, x.Register = api.Waiting, in.X
	}
	x.Executed++
	return e.Drew
}

// run does what Run is to do for a number of cycles.
func (k *model) run(l []api.KeyEvent, n int) Record {
	s := k.x.State
	for _, e := range l {
		pad, released := keypad.Apply(s.Pad, e)
		s.Pad = pad
		if released && k.x.Status.Kind == api.Waiting {
			s.V[k.x.Register] = byte(e.Key)
			k.x.Status.Kind = api.Running
		}
	}
	drew := false
	for made := 0; made < n && k.x.Status.Kind == api.Running && !drew; made++ {
		drew = k.step()
	}
	r := Record{
		Planes: s.Screen.Planes, Hires: s.Screen.Hires, Sound: s.Timers.Sound > 0,
		Pattern: s.Audio.Pattern, Pitch: s.Audio.Pitch, Status: k.x.Status,
	}
	s.Timers.Delay -= min(s.Timers.Delay, 1)
	s.Timers.Sound -= min(s.Timers.Sound, 1)
	return r
}

// program returns a ROM of instructions that draw, wait, set the timers and the audio state, and write over the ROM, in a loop.
func program(r *rand.Rand, level int) []byte {
	x := func(o int) int { return o | r.IntN(16)<<8 }
	xy := func(o int) int { return x(o) | r.IntN(16)<<4 }
	var opcodes []int
	for len(opcodes) < 40 {
		choice := r.IntN(15)
		switch {
		case choice < 4:
			opcodes = append(opcodes, x(0x6000)|r.IntN(256))
		case choice < 6:
			opcodes = append(opcodes, xy(0xD000)|1+r.IntN(15))
		case choice < 7:
			opcodes = append(opcodes, x(0xF015), x(0xF018), x(0xF007))
		case choice < 8:
			opcodes = append(opcodes, x(0xF029), 0xA200|r.IntN(100), x(0xF01E))
		case choice < 9:
			opcodes = append(opcodes, x(0xE09E), x(0xE0A1))
		case choice < 10 && r.IntN(2) == 0:
			opcodes = append(opcodes, x(0xF00A))
		case choice < 11:
			opcodes = append(opcodes, 0xA200|r.IntN(100), []int{0xF055, 0xF155, 0xF033}[r.IntN(3)])
		case choice < 12:
			opcodes = append(opcodes, x(0x3000)|r.IntN(256), 0x1200|r.IntN(40)*2, x(0xC000)|r.IntN(256))
		case choice == 12 && level >= api.SuperChip:
			opcodes = append(opcodes, []int{0x00FF, 0x00FE, 0x00FB, 0x00FC, 0x00C2, xy(0xD000)}[r.IntN(6)])
		case choice == 13 && level >= api.XOChip:
			opcodes = append(opcodes, []int{0xF001, 0xF201, 0xF301, 0xFF01, 0x00D1, 0xF002, x(0xF03A)}[r.IntN(7)])
		case choice == 14 && r.IntN(8) == 0:
			opcodes = append(opcodes, []int{0x00E0, 0x00FD, 0x00FD, 0x00EE, 0x2200}[r.IntN(5)])
		}
	}
	return code(append(opcodes, 0x1200)...)
}

// events returns some key events.
func events(r *rand.Rand) []api.KeyEvent {
	var l []api.KeyEvent
	for range r.IntN(4) {
		l = append(l, api.KeyEvent{Key: r.IntN(18) - 1, Down: r.IntN(2) == 0})
	}
	return l
}

// cycles returns a number of cycles.
func cycles(r *rand.Rand) int { return []int{0, 1, 2, 10, 30, 100}[r.IntN(6)] }

// checkRecord checks that a status is exactly one of running, waiting, halted, and faulted with a cause, a PC and a cycle.
func checkRecord(t *testing.T, s api.Status) {
	t.Helper()
	place := s.PC != 0 || s.Cycle != 0
	switch s.Kind {
	case api.Running, api.Waiting:
		if s.Cause != api.OK || place {
			t.Errorf("%+v", s)
		}
	case api.Halted:
		if s.Cause != api.OK {
			t.Errorf("%+v", s)
		}
	case api.Faulted:
		if s.Cause < api.ErrIllegal || s.Cause > api.ErrRange {
			t.Errorf("%+v", s)
		}
	default:
		t.Errorf("%+v", s)
	}
}

// P21.1, P21.2, P21.4, P2 and P4: programs for all profiles, with a cache, with one that is flushed, and without one, have the records of the model.
func TestPrograms(t *testing.T) {
	r := rand.New(rand.NewPCG(21, 1))
	kinds, screens, sounds := [4]int{}, map[bool]int{}, map[bool]int{}
	for n := range profile.Count() {
		p, _ := profile.At(n)
		c := machine.Config{ROM: program(r, p.Level), List: []byte{9, 0x12, 200}, Profile: p, Cached: true}
		flushed, plain := c, c
		flushed.Flush = []int{0, 3, 4, 5, 50, 77, 78, r.IntN(200)}
		plain.Cached = false
		k := newModel(t, c)
		machines := []*machine.Machine{initial(t, c), initial(t, flushed), initial(t, plain)}
		for range 12 {
			l, cycles := events(r), cycles(r)
			want := k.run(l, cycles)
			checkRecord(t, want.Status)
			for i, m := range machines {
				if got := run(t, m, cycles, l...); got != want {
					t.Fatalf("machine %d: %+v, want %+v; program %d: %X under %+v", i, got, want, n, c.ROM, p)
				}
				compareSnapshots(t, m.Snapshot(), k.x)
			}
			screens[want.Hires]++
			sounds[want.Sound]++
		}
		if t.Failed() {
			t.Fatalf("program %d: %X under %+v", n, c.ROM, p)
		}
		kinds[k.x.Status.Kind]++
	}
	// The programs are of use only if all kinds, both resolutions, and frames with and without sound occur.
	for kind, n := range kinds {
		if n == 0 {
			t.Errorf("no program ends with the kind %d", kind)
		}
	}
	for _, b := range []bool{false, true} {
		if screens[b] == 0 || sounds[b] == 0 {
			t.Errorf("Hires is %v %d times, and Sound %d times", b, screens[b], sounds[b])
		}
	}
}
