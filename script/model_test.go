package script

import (
	"math/rand/v2"
	"slices"
	"testing"

	"cosmac/api"
	"cosmac/cpu"
	"cosmac/decode"
	"cosmac/frame"
	"cosmac/keypad"
	"cosmac/profile"
)

// model is a console without a cache, which decodes each instruction anew when it executes it.
type model struct {
	p        api.Profile
	s        *cpu.State
	status   api.Status
	register int
	executed int
}

// modelRun returns the records of a script as the chapters tell them.
func modelRun(t *testing.T, s Script) []frame.Record {
	t.Helper()
	state, e := cpu.New(s.ROM, s.List)
	if e != api.OK {
		t.Fatal(e)
	}
	k := &model{p: s.Profile, s: state}
	var out []frame.Record
	for _, l := range s.Frames {
		for _, e := range l {
			k.key(e)
		}
		drew := false
		for made := 0; made < s.Cycles && k.status.Kind == api.Running && !drew; made++ {
			drew = k.step()
		}
		out = append(out, frame.Record{
			Planes: state.Screen.Planes, Hires: state.Screen.Hires, Sound: state.Timers.Sound > 0,
			Pattern: state.Audio.Pattern, Pitch: state.Audio.Pitch, Status: k.status,
		})
		state.Timers.Delay -= min(state.Timers.Delay, 1)
		state.Timers.Sound -= min(state.Timers.Sound, 1)
	}
	return out
}

// key applies a key event.
func (k *model) key(e api.KeyEvent) {
	pad, released := keypad.Apply(k.s.Pad, e)
	k.s.Pad = pad
	if released && k.status.Kind == api.Waiting {
		k.s.V[k.register] = byte(e.Key)
		k.status.Kind = api.Running
	}
}

// step executes the next instruction, and reports whether it drew.
func (k *model) step() bool {
	s, pc := k.s, k.s.PC
	in := decode.Decode([4]byte{s.Mem.Read(pc), s.Mem.Read(pc + 1), s.Mem.Read(pc + 2), s.Mem.Read(pc + 3)}, k.p.Level)
	e := cpu.Effect{Cause: api.ErrRange}
	if !k.p.Fault || pc+in.Len <= api.MemSize {
		e = cpu.Exec(s, in, k.p)
	}
	switch {
	case e.Cause != api.OK:
		k.status = api.Status{Kind: api.Faulted, Cause: e.Cause, PC: pc, Cycle: k.executed}
	case e.Halt:
		k.status = api.Status{Kind: api.Halted, PC: pc, Cycle: k.executed}
	case e.Wait:
		k.status.Kind, k.register = api.Waiting, in.X
	}
	k.executed++
	return e.Drew
}

// program returns a ROM of instructions, many of which write over the ROM, in a loop.
func program(r *rand.Rand, level int) []byte {
	x := func(o int) int { return o | r.IntN(16)<<8 }
	xy := func(o int) int { return x(o) | r.IntN(16)<<4 }
	var opcodes []int
	for len(opcodes) < 40 {
		choice := r.IntN(14)
		switch {
		case choice < 3:
			// Registers that hold instructions, which are written to the ROM.
			opcodes = append(opcodes, 0x6000|[]int{0x60, 0x70, 0xD0, 0x80, 0x00, 0xF0, 0x3F, 0x12}[r.IntN(8)], 0x6100|r.IntN(256))
			opcodes = append(opcodes, 0xA200|r.IntN(50)*2, 0xF155)
		case choice < 5:
			opcodes = append(opcodes, 0xA200|r.IntN(100), []int{0xF055, 0xF155, 0xF033, 0xFF65}[r.IntN(4)])
		case choice < 7:
			opcodes = append(opcodes, xy(0xD000)|1+r.IntN(15))
		case choice < 8:
			opcodes = append(opcodes, x(0xF015), x(0xF018), x(0xF007))
		case choice < 9:
			opcodes = append(opcodes, x(0xE09E), x(0x6000)|r.IntN(256), x(0xF029))
		case choice < 10:
			opcodes = append(opcodes, x(0xC000)|r.IntN(256), x(0x3000)|r.IntN(256), 0x1200|r.IntN(40)*2)
		case choice == 10 && r.IntN(2) == 0:
			opcodes = append(opcodes, x(0xF00A))
		case choice == 11 && r.IntN(8) == 0:
			opcodes = append(opcodes, []int{0x00E0, 0x00FD, 0x00EE, 0x2200}[r.IntN(4)])
		case choice == 12 && level >= api.SuperChip:
			opcodes = append(opcodes, []int{0x00FF, 0x00FE, 0x00FB, 0x00C2, xy(0xD000), x(0xF030)}[r.IntN(6)])
		case choice == 13 && level >= api.XOChip:
			opcodes = append(opcodes, []int{0xF201, 0xF301, 0x00D1, 0xF002, x(0xF03A), 0xF000, 0x5022 | r.IntN(15)<<8}[r.IntN(7)])
		}
	}
	return code(append(opcodes, 0x1200)...)
}

// events returns some key events.
func events(r *rand.Rand) []api.KeyEvent {
	var l []api.KeyEvent
	for range r.IntN(4) {
		l = append(l, api.KeyEvent{Key: r.IntN(18) - 1, Down: r.IntN(2) == 0})
	}
	return l
}

// variants returns scripts that differ from one in Cached and Flush only.
func variants(r *rand.Rand, s Script) []Script {
	var every, some []int
	for i := range 300 {
		every = append(every, i)
	}
	for range 8 {
		some = append(some, r.IntN(400)-9)
	}
	var out []Script
	for _, flush := range [][]int{nil, {0}, some, every} {
		for _, cached := range []bool{true, false} {
			s.Cached, s.Flush = cached, flush
			out = append(out, s)
		}
	}
	return out
}

// P22.1, P22.3 and P2: scripts for all profiles have the records of a console that decodes every instruction anew, whatever Cached and Flush are.
func TestScripts(t *testing.T) {
	r := rand.New(rand.NewPCG(22, 1))
	ends := map[int]int{}
	for n := range profile.Count() {
		p, _ := profile.At(n)
		s := Script{ROM: program(r, p.Level), List: []byte{9, 0x12, 200}, Profile: p, Cycles: []int{0, 1, 2, 9, 30, 100}[(n+n/6)%6]}
		for range 10 {
			s.Frames = append(s.Frames, events(r))
		}
		want := modelRun(t, s)
		for i, v := range variants(r, s) {
			if got := run(t, v); !slices.Equal(got, want) {
				t.Fatalf("variant %d: statuses %+v, want %+v, or another part differs; %d cycles of %X under %+v, frames %v",
					i, statuses(got), statuses(want), s.Cycles, s.ROM, p, s.Frames)
			}
		}
		ends[want[9].Status.Kind]++
		checkEnd(t, want)
	}
	// The programs are of use only if they end with all kinds.
	for kind := range 4 {
		if ends[kind] == 0 {
			t.Errorf("no program ends with the kind %d", kind)
		}
	}
}

// checkEnd checks the index of the end in records: all before it are not ended, and all from it on have the same status.
func checkEnd(t *testing.T, l []frame.Record) {
	t.Helper()
	end := End(Result{Records: l})
	for i, r := range l {
		ended := r.Status.Kind == api.Halted || r.Status.Kind == api.Faulted
		if ended != (end >= 0 && i >= end) {
			t.Errorf("End = %d, but the status of the record %d is %+v", end, i, r.Status)
		}
		if ended && end >= 0 && r.Status != l[end].Status {
			t.Errorf("the status %+v becomes %+v in the record %d", l[end].Status, r.Status, i)
		}
	}
}

// P22.3: errors and rejections do not depend on Cached and Flush either.
func TestVariantsOfErrors(t *testing.T) {
	r := rand.New(rand.NewPCG(22, 2))
	for _, x := range []struct {
		p        api.Profile
		cycles   int
		size     int
		rejected bool
		err      api.Errno
	}{
		{xochip, 9, api.MaxROM + 1, true, api.OK},
		{xochip, 9, api.MaxROM, false, api.OK},
		{xochip, -1, 2, false, api.ErrArg},
		{api.Profile{Level: 4}, 9, api.MaxROM + 1, false, api.ErrArg},
	} {
		for _, s := range variants(r, Script{ROM: make([]byte, x.size), Profile: x.p, Cycles: x.cycles}) {
			got, e := Run(s)
			if e != x.err {
				t.Errorf("Cached %v, Flush %v: %v, want %v", s.Cached, s.Flush, e, x.err)
			}
			checkEmpty(t, got, x.rejected)
		}
	}
}
