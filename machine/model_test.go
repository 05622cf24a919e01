package machine

import (
	"math/rand/v2"
	"testing"

	"cosmac/api"
	"cosmac/cpu"
	"cosmac/decode"
	"cosmac/profile"
)

// model is a machine without a cache, which does what the chapter tells, step by step.
type model struct {
	p api.Profile
	x Snapshot
}

// newModel returns the model of an initial machine.
func newModel(t *testing.T, c Config) *model {
	t.Helper()
	s, e := cpu.New(c.ROM, c.List)
	if e != api.OK {
		t.Fatal(e)
	}
	return &model{p: c.Profile, x: Snapshot{State: s}}
}

// step does what Step is to do.
func (k *model) step() bool {
	s, x := k.x.State, &k.x
	if x.Status.Kind != api.Running {
		return false
	}
	pc := s.PC
	in := decode.Decode([4]byte{s.Mem.Read(pc), s.Mem.Read(pc + 1), s.Mem.Read(pc + 2), s.Mem.Read(pc + 3)}, k.p.Level)
	e := cpu.Effect{Cause: api.ErrRange}
	if !k.p.Fault || pc+in.Len <= 65536 {
		e = cpu.Exec(s, in, k.p)
	}
	if e.Cause != api.OK {
		x.Status = api.Status{Kind: api.Faulted, Cause: e.Cause, PC: pc, Cycle: x.Executed}
	}
	if e.Halt {
		x.Status = api.Status{Kind: api.Halted, PC: pc, Cycle: x.Executed}
	}
	if e.Wait {
		x.Status.Kind, x.Register = api.Waiting, in.X
	}
	x.Executed++
	return e.Drew
}

// key does what Key is to do, for a key from 0 to 15.
func (k *model) key(e api.KeyEvent) {
	s := k.x.State
	if s.Pad.Down[e.Key] && !e.Down && k.x.Status.Kind == api.Waiting {
		s.V[k.x.Register] = byte(e.Key)
		k.x.Status.Kind = api.Running
	}
	s.Pad.Down[e.Key] = e.Down
}

// tick does what Tick is to do.
func (k *model) tick() {
	s := k.x.State
	s.Timers.Delay -= min(s.Timers.Delay, 1)
	s.Timers.Sound -= min(s.Timers.Sound, 1)
}

// program returns a ROM of instructions many of which write to the ROM and jump within it. What they write are bytes of instructions too.
func program(r *rand.Rand, level int) []byte {
	var opcodes []int
	xy := func(o int) int { return o | r.IntN(256)<<4 }
	x := func(o int) int { return o | r.IntN(16)<<8 }
	near := func() int { return 0x200 + r.IntN(100) }
	heads := []int{0x60, 0x61, 0x62, 0x73, 0x12, 0xA2, 0x84, 0xF0, 0xF1, 0x55, 0x02, 0x33, 0x0A, 0x65}
	for len(opcodes) < 48 {
		choice := r.IntN(28)
		switch {
		case choice < 6:
			opcodes = append(opcodes, x(0x6000)|heads[r.IntN(len(heads))])
		case choice < 10:
			opcodes = append(opcodes, 0xA000|near())
		case choice < 14:
			opcodes = append(opcodes, 0xF055|r.IntN(4)<<8)
		case choice < 16:
			opcodes = append(opcodes, x(0xF033))
		case choice < 18:
			opcodes = append(opcodes, 0x1000|(near()&^1))
		case choice < 20:
			opcodes = append(opcodes, 0x2000|(near()&^1), 0x00EE)
		case choice < 22:
			opcodes = append(opcodes, x(0x3000)|heads[r.IntN(len(heads))], 0x1200)
		case choice == 22:
			opcodes = append(opcodes, x(0xF065), x(0xE09E), x(0xF007), x(0xF015), xy(0x5000))
		case choice == 23:
			opcodes = append(opcodes, x(0xF00A))
		case choice == 24:
			opcodes = append(opcodes, xy(0xD001)|r.IntN(16), x(0xC000)|r.IntN(256))
		case choice == 25 && level == api.XOChip:
			opcodes = append(opcodes, 0xF000, []int{0xFFFF, 0xFFFD, 0x0210, near()}[r.IntN(4)])
		case choice == 26 && level == api.XOChip:
			opcodes = append(opcodes, xy(0x5002), xy(0x5003))
		case choice == 27 && level != api.Chip8:
			opcodes = append(opcodes, []int{0x00FF, 0x00FE, 0x00FD, 0x00C3}[r.IntN(4)])
		}
	}
	return code(opcodes...)
}

// flushes returns a list of numbers of instructions.
func flushes(r *rand.Rand) []int {
	var l []int
	for range r.IntN(60) {
		l = append(l, r.IntN(200)-5)
	}
	return l
}

// trial is some machines that have the same program as a model, and the addresses at which the model was.
type trial struct {
	configs  []Config
	machines []*Machine
	k        *model
	visited  map[int]bool
}

// newTrial returns a trial with a cache, with a cache that is flushed, and without a cache.
func newTrial(t *testing.T, r *rand.Rand, p api.Profile) *trial {
	t.Helper()
	c := Config{ROM: program(r, p.Level), List: []byte{9, 0x12, 200}, Profile: p, Cached: true}
	flushed, plain := c, c
	flushed.Flush = flushes(r)
	plain.Flush, plain.Cached = flushes(r), false
	x := &trial{configs: []Config{c, flushed, plain}, k: newModel(t, c), visited: map[int]bool{}}
	for _, c := range x.configs {
		x.machines = append(x.machines, start(t, c))
	}
	return x
}

// replace replaces one of the machines by one that is resumed with its snapshot.
func (x *trial) replace(t *testing.T, r *rand.Rand) {
	t.Helper()
	i := r.IntN(len(x.machines))
	x.machines[i] = resume(t, x.configs[i], x.machines[i].Snapshot())
}

// key applies a key event to all machines.
func (x *trial) key(e api.KeyEvent) {
	for _, m := range x.machines {
		m.Key(e)
	}
	x.k.key(e)
}

// tick ticks the timers of all machines.
func (x *trial) tick() {
	for _, m := range x.machines {
		m.Tick()
	}
	x.k.tick()
}

// step makes a step of all machines, and compares them with the model.
func (x *trial) step(t *testing.T) {
	t.Helper()
	x.visited[x.k.x.State.PC] = true
	want, w := x.k.step(), x.k.x
	for i, m := range x.machines {
		got, g := m.Step(), m.now
		same := g.State.V == w.State.V && g.State.I == w.State.I && g.State.PC == w.State.PC
		if got != want || m.Status() != w.Status || m.Executed() != w.Executed || !same {
			t.Fatalf("machine %d: %v, %+v, %d, V %v, I %d, PC %d; want %v, %+v, %d, V %v, I %d, PC %d", i,
				got, g.Status, g.Executed, g.State.V, g.State.I, g.State.PC, want, w.Status, w.Executed, w.State.V, w.State.I, w.State.PC)
		}
		x.checkEntries(t, m)
	}
}

// checkEntries checks that each entry of a machine at the addresses is what the present bytes are decoded to.
func (x *trial) checkEntries(t *testing.T, m *Machine) {
	t.Helper()
	s := m.now.State
	for a := range x.visited {
		b := [4]byte{s.Mem.Read(a), s.Mem.Read(a + 1), s.Mem.Read(a + 2), s.Mem.Read(a + 3)}
		want := decode.Decode(b, m.profile.Level)
		if in, valid := m.Entry(a); valid && in != want {
			t.Fatalf("the entry at %d is %+v, want %+v", a, in, want)
		}
	}
}

// checkEnd compares all of the machines with the model, and checks that only enabled caches have entries, at the addresses only.
func (x *trial) checkEnd(t *testing.T) {
	t.Helper()
	for i, m := range x.machines {
		compareSnapshots(t, m.Snapshot(), x.k.x)
		for _, a := range entries(m) {
			if !x.configs[i].Cached || !x.visited[a] {
				t.Errorf("machine %d has an entry at %d", i, a)
			}
		}
	}
}

// P20.1 to P20.6: programs that write to themselves, for all profiles: machines with and without the cache, with and without flushes, and resumed ones, do what a machine without a cache does.
func TestPrograms(t *testing.T) {
	r := rand.New(rand.NewPCG(20, 1))
	kinds := [4]int{}
	for n := range 3 * profile.Count() {
		p, _ := profile.At(n % profile.Count())
		x := newTrial(t, r, p)
		for range 150 {
			if r.IntN(40) == 0 {
				x.replace(t, r)
			}
			if r.IntN(3) == 0 {
				x.key(api.KeyEvent{Key: r.IntN(16), Down: r.IntN(3) > 0})
			}
			if r.IntN(8) == 0 {
				x.tick()
			}
			x.step(t)
		}
		x.checkEnd(t)
		if t.Failed() {
			t.Fatalf("program %d: %X under %+v", n, x.configs[0].ROM, p)
		}
		kinds[x.k.x.Status.Kind]++
	}
	// The programs are of use only if all kinds occur.
	for kind, n := range kinds {
		if n == 0 {
			t.Errorf("no program ends with the kind %d", kind)
		}
	}
}
