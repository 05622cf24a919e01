package machine

import (
	"bytes"
	"math"
	"slices"
	"testing"

	"cosmac/api"
	"cosmac/audio"
	"cosmac/cpu"
	"cosmac/decode"
	"cosmac/keypad"
	"cosmac/mem"
	"cosmac/profile"
	"cosmac/random"
	"cosmac/screen"
	"cosmac/timer"
)

const size = 65536

var (
	chip8  = api.Profile{Level: api.Chip8}
	schip  = api.Profile{Level: api.SuperChip}
	xochip = api.Profile{Level: api.XOChip}
)

// fault returns a profile with the quirk Fault.
func fault(p api.Profile) api.Profile {
	p.Fault = true
	return p
}

// start returns the initial machine of a configuration.
func start(t *testing.T, c Config) *Machine {
	t.Helper()
	m, e := New(c)
	if m == nil || e != api.OK {
		t.Fatalf("New = %v, %v", m, e)
	}
	return m
}

// resume returns the machine that is resumed with a snapshot.
func resume(t *testing.T, c Config, x Snapshot) *Machine {
	t.Helper()
	m, e := Resume(c, x)
	if m == nil || e != api.OK {
		t.Fatalf("Resume = %v, %v", m, e)
	}
	return m
}

// code returns the bytes of opcodes.
func code(opcodes ...int) []byte {
	var b []byte
	for _, o := range opcodes {
		b = append(b, byte(o>>8), byte(o))
	}
	return b
}

// steps makes n steps.
func steps(m *Machine, n int) {
	for range n {
		m.Step()
	}
}

// press applies the event that a key is pressed, and release that it is released.
func press(m *Machine, key int)   { m.Key(api.KeyEvent{Key: key, Down: true}) }
func release(m *Machine, key int) { m.Key(api.KeyEvent{Key: key}) }

// placed returns a snapshot of a machine that is about to execute opcodes at an address, and has executed some instructions.
func placed(t *testing.T, pc, executed int, opcodes ...int) Snapshot {
	t.Helper()
	s, e := cpu.New(nil, []byte{5})
	if e != api.OK {
		t.Fatal(e)
	}
	s.Mem.Write(pc, code(opcodes...))
	s.PC = pc
	return Snapshot{State: s, Executed: executed}
}

// compare compares all contents of two states, but the logs of their memories.
func compare(t *testing.T, got, want *cpu.State) {
	t.Helper()
	g, w := *got, *want
	g.Mem, g.Random, w.Mem, w.Random = nil, nil, nil, nil
	if g != w {
		t.Errorf("V %v, I %d, PC %d, %v, %v, %v; want V %v, I %d, PC %d, %v, %v, %v; or another part differs",
			g.V, g.I, g.PC, g.Stack, g.Pad, g.Timers, w.V, w.I, w.PC, w.Stack, w.Pad, w.Timers)
	}
	if !bytes.Equal(got.Mem.Bytes(0, size), want.Mem.Bytes(0, size)) {
		t.Error("the memories differ")
	}
	if got.Random.Count() != want.Random.Count() || !bytes.Equal(got.Random.List(), want.Random.List()) {
		t.Errorf("%d bytes were read of %v, want %d of %v", got.Random.Count(), got.Random.List(), want.Random.Count(), want.Random.List())
	}
}

// compareSnapshots compares all contents of two snapshots.
func compareSnapshots(t *testing.T, got, want Snapshot) {
	t.Helper()
	compare(t, got.State, want.State)
	if got.Status != want.Status || got.Register != want.Register || got.Executed != want.Executed {
		t.Errorf("%+v, register %d, executed %d; want %+v, register %d, executed %d",
			got.Status, got.Register, got.Executed, want.Status, want.Register, want.Executed)
	}
}

// checkStatus compares the status and the number of executed instructions of a machine.
func checkStatus(t *testing.T, m *Machine, status api.Status, executed int) {
	t.Helper()
	if m.Status() != status || m.Executed() != executed {
		t.Errorf("%+v after %d instructions, want %+v after %d", m.Status(), m.Executed(), status, executed)
	}
}

// entries returns the addresses of all valid entries.
func entries(m *Machine) []int {
	var l []int
	for a := range size {
		if _, valid := m.Entry(a); valid {
			l = append(l, a)
		}
	}
	return l
}

// checkEntries compares the addresses of all valid entries, and what these are with what the bytes there are decoded to.
func checkEntries(t *testing.T, m *Machine, level int, want ...int) {
	t.Helper()
	if got := entries(m); !slices.Equal(got, want) {
		t.Errorf("valid entries at %v, want %v", got, want)
	}
	s := m.State()
	for _, a := range want {
		b := [4]byte{s.Mem.Read(a), s.Mem.Read(a + 1), s.Mem.Read(a + 2), s.Mem.Read(a + 3)}
		if in, _ := m.Entry(a); in != decode.Decode(b, level) {
			t.Errorf("the entry at %d is %+v, want %+v", a, in, decode.Decode(b, level))
		}
	}
}

// P20.1, P20.3: the initial machine, for all profiles.
func TestNew(t *testing.T) {
	rom, list := code(0x6A12, 0x1202), []byte{3, 1, 4}
	memory, e := mem.New(rom)
	if e != api.OK {
		t.Fatal(e)
	}
	want := &cpu.State{PC: 512, Mem: memory, Screen: screen.New(), Audio: audio.New(), Random: random.New(list)}
	for n := range profile.Count() {
		p, _ := profile.At(n)
		for _, cached := range []bool{true, false} {
			m := start(t, Config{ROM: rom, List: list, Profile: p, Cached: cached, Flush: []int{0, 1}})
			checkStatus(t, m, api.Status{}, 0)
			compare(t, m.State(), want)
			compareSnapshots(t, m.Snapshot(), Snapshot{State: want})
		}
	}
	checkEntries(t, start(t, Config{ROM: rom, Profile: chip8, Cached: true}), api.Chip8)
}

// P20.1: the longest ROM, and no ROM.
func TestNewROM(t *testing.T) {
	longest := bytes.Repeat([]byte{1, 2, 3}, api.MaxROM)[:api.MaxROM]
	for _, rom := range [][]byte{nil, {}, {7}, longest[:api.MaxROM-1], longest} {
		m := start(t, Config{ROM: rom, Profile: schip})
		if s := m.State(); !bytes.Equal(s.Mem.Bytes(512, len(rom)), rom) {
			t.Errorf("the memory for a ROM of %d bytes differs", len(rom))
		}
	}
}

// P20.1: the profile is checked before the ROM.
func TestNewErrors(t *testing.T) {
	long := make([]byte, api.MaxROM+1)
	for _, x := range []struct {
		c Config
		e api.Errno
	}{
		{Config{}, api.ErrArg},
		{Config{Profile: api.Profile{Level: 4}}, api.ErrArg},
		{Config{Profile: api.Profile{Level: -1, Fault: true}, Cached: true}, api.ErrArg},
		{Config{Profile: api.Profile{Level: math.MaxInt}, ROM: code(0x1200)}, api.ErrArg},
		{Config{Profile: api.Profile{Level: 4}, ROM: long}, api.ErrArg},
		{Config{ROM: long}, api.ErrArg},
		{Config{Profile: chip8, ROM: long}, api.ErrROM},
		{Config{Profile: fault(xochip), ROM: make([]byte, 1<<20), Cached: true}, api.ErrROM},
	} {
		if m, e := New(x.c); m != nil || e != x.e {
			t.Errorf("New with a ROM of %d bytes and %+v = %v, %v, want %v", len(x.c.ROM), x.c.Profile, m, e, x.e)
		}
	}
}

// P20.2, P20.3: the chapter's example, and that of DOC.md for the level Chip8.
func TestExample(t *testing.T) {
	m := start(t, Config{ROM: code(0x00FD), Profile: schip})
	m.Step()
	checkStatus(t, m, api.Status{Kind: api.Halted, PC: 512}, 1)
	m = start(t, Config{ROM: code(0x00FD), Profile: chip8})
	m.Step()
	checkStatus(t, m, api.Status{Kind: api.Faulted, Cause: api.ErrIllegal, PC: 512}, 1)
}

// P20.2, P20.3: how instructions end a machine; all further steps do nothing.
func TestEnds(t *testing.T) {
	halt := func(pc, cycle int) api.Status { return api.Status{Kind: api.Halted, PC: pc, Cycle: cycle} }
	fail := func(cause api.Errno, pc, cycle int) api.Status {
		return api.Status{Kind: api.Faulted, Cause: cause, PC: pc, Cycle: cycle}
	}
	for i, x := range []struct {
		p      api.Profile
		rom    []byte
		status api.Status
	}{
		{schip, code(0x00FD), halt(512, 0)},
		{xochip, code(0x6001, 0x1206, 0, 0x00FD), halt(518, 2)},
		{chip8, code(0x00FD), fail(api.ErrIllegal, 512, 0)},
		{chip8, code(0x6001, 0x1206), fail(api.ErrIllegal, 518, 2)},
		{chip8, code(0x00EE), fail(api.ErrReturn, 512, 0)},
		{chip8, code(0x2204, 0x00EE, 0x00EE), fail(api.ErrReturn, 514, 2)},
		{chip8, code(0x6001, 0x2202), fail(api.ErrOverflow, 514, 17)},
		{fault(chip8), code(0x6001, 0xFFFF), fail(api.ErrIllegal, 514, 1)},
		{fault(xochip), code(0xF000, 0xFFFF, 0xF033), fail(api.ErrRange, 516, 1)},
		{fault(xochip), code(0xF000, 0xFFFF, 0xF155), fail(api.ErrRange, 516, 1)},
		{fault(xochip), code(0xF000, 0xFFFF, 0xD122), fail(api.ErrRange, 516, 1)},
	} {
		for _, cached := range []bool{true, false} {
			m := start(t, Config{ROM: x.rom, Profile: x.p, Cached: cached})
			for n := range x.status.Cycle {
				m.Step()
				checkStatus(t, m, api.Status{}, n+1)
			}
			before := m.State()
			for range 3 {
				if m.Step() {
					t.Errorf("%d: Drew", i)
				}
				checkStatus(t, m, x.status, x.status.Cycle+1)
				compare(t, m.State(), before)
			}
			if t.Failed() {
				t.Fatalf("program %d, cached %v", i, cached)
			}
		}
	}
}

// P20.2: under the quirk Fault, an instruction that leaves the memory fails before anything of it is executed; otherwise, it goes on at the address 0.
func TestEndOfMemory(t *testing.T) {
	for _, x := range []struct {
		pc      int
		opcodes []int
		p       api.Profile
		leaves  bool
	}{
		{65535, []int{0x6A77}, chip8, true}, {65534, []int{0x6A77}, chip8, false}, {65533, []int{0x6A77}, chip8, false},
		{65535, []int{0x1300}, chip8, true}, {65534, []int{0x1300}, chip8, false},
		{65535, []int{0x2300}, schip, true}, {65534, []int{0xF30A}, schip, false}, {65535, []int{0xF30A}, schip, true},
		{65535, []int{0x00FD}, schip, true}, {65534, []int{0x00FD}, schip, false},
		{65535, []int{0xC3FF}, xochip, true}, {65534, []int{0xC3FF}, xochip, false},
		{65535, []int{0xF000, 0x1234}, xochip, true}, {65534, []int{0xF000, 0x1234}, xochip, true},
		{65533, []int{0xF000, 0x1234}, xochip, true}, {65532, []int{0xF000, 0x1234}, xochip, false},
		{65535, []int{0xFFFF}, chip8, true}, {65534, []int{0xFFFF}, chip8, false}, // illegal ones
		{65534, []int{0xF000, 0x1234}, schip, false}, {65535, []int{0xF000, 0x1234}, schip, true},
		{65535, []int{0x00EE}, chip8, true}, {65534, []int{0x00EE}, chip8, false}, // with an empty stack
	} {
		for _, p := range []api.Profile{x.p, fault(x.p)} {
			before := placed(t, x.pc, 7, x.opcodes...)
			m := resume(t, Config{Profile: p, Cached: true}, before)
			m.Step()
			want := Snapshot{State: cpu.Clone(before.State), Executed: 8}
			in, valid := m.Entry(x.pc)
			if !valid {
				t.Errorf("no entry at %d", x.pc)
			}
			e := cpu.Effect{Cause: api.ErrRange}
			if !p.Fault || !x.leaves {
				e = cpu.Exec(want.State, in, p)
			}
			switch {
			case e.Cause != api.OK:
				want.Status = api.Status{Kind: api.Faulted, Cause: e.Cause, PC: x.pc, Cycle: 7}
			case e.Halt:
				want.Status = api.Status{Kind: api.Halted, PC: x.pc, Cycle: 7}
			case e.Wait:
				want.Status, want.Register = api.Status{Kind: api.Waiting}, 3
			}
			compareSnapshots(t, m.Snapshot(), want)
			if t.Failed() {
				t.Fatalf("%04X at %d under %+v", x.opcodes, x.pc, p)
			}
		}
	}
}

// P20.2: the cause of a fetch at the end of the memory is ErrRange, also for an instruction that would fail with another one. Written out.
func TestEndOfMemoryCause(t *testing.T) {
	for _, opcode := range []int{0x6A77, 0xFFFF, 0x00EE, 0x1200} {
		m := resume(t, Config{Profile: fault(chip8)}, placed(t, 65535, 3, opcode))
		if m.Step() {
			t.Error("Drew")
		}
		checkStatus(t, m, api.Status{Kind: api.Faulted, Cause: api.ErrRange, PC: 65535, Cycle: 3}, 4)
	}
	m := resume(t, Config{Profile: chip8}, placed(t, 65535, 3, 0x6A77))
	m.Step()
	checkStatus(t, m, api.Status{}, 4)
	if s := m.State(); s.V[10] != 0x77 || s.PC != 1 {
		t.Errorf("VA %d, PC %d", s.V[10], s.PC)
	}
}

// P20.2: a step reports a sprite that ends the cycles of a frame, and nothing else.
func TestDrew(t *testing.T) {
	wait := schip
	wait.DisplayWait = true
	for _, x := range []struct {
		p    api.Profile
		rom  []byte
		want []bool
	}{
		{wait, code(0xD001, 0x6001, 0xD000, 0x1200), []bool{true, false, true, false, true, false}},
		{schip, code(0xD001, 0x6001, 0xD000, 0x1200), []bool{false, false, false, false, false}},
		{wait, code(0x00FF, 0xD001, 0x00FE, 0xD001, 0x00FD), []bool{false, false, false, true, false, false}},
		{wait, code(0xD001, 0xF00A, 0xD001), []bool{true, false, false, false}},
		{wait, code(0xD001, 0xFFFF), []bool{true, false, false, false}},
	} {
		m := start(t, Config{ROM: x.rom, Profile: x.p, Cached: true})
		for i, want := range x.want {
			if got := m.Step(); got != want {
				t.Errorf("step %d of %X: %v, want %v", i, x.rom, got, want)
			}
		}
	}
}

// P20.2: a sprite that cannot be read is not reported.
func TestDrewFault(t *testing.T) {
	p := fault(xochip)
	p.DisplayWait = true
	m := start(t, Config{ROM: code(0xF000, 0xFFFF, 0xD002), Profile: p})
	if m.Step() || m.Step() {
		t.Error("Drew")
	}
	checkStatus(t, m, api.Status{Kind: api.Faulted, Cause: api.ErrRange, PC: 516, Cycle: 1}, 2)
}

// P20.2: waiting ends with the release of a key, whose number the register becomes; it does not matter when the key was pressed.
func TestWaiting(t *testing.T) {
	for x := range 16 {
		for key := range 16 {
			for _, early := range []bool{true, false} {
				m := start(t, Config{ROM: code(0xF00A|x<<8, 0x1202), Profile: chip8, Cached: true})
				if early {
					press(m, key)
				}
				m.Step()
				checkStatus(t, m, api.Status{Kind: api.Waiting}, 1)
				want := m.State()
				if want.PC != 514 || want.V != ([16]byte{}) {
					t.Fatalf("waiting: PC %d, V %v", want.PC, want.V)
				}
				press(m, key)
				m.Step()
				checkStatus(t, m, api.Status{Kind: api.Waiting}, 1)
				release(m, key)
				checkStatus(t, m, api.Status{}, 1)
				want.V[x] = byte(key)
				want.Pad = keypad.Pad{}
				compareSnapshots(t, m.Snapshot(), Snapshot{State: want, Register: x, Executed: 1})
				m.Step()
				checkStatus(t, m, api.Status{}, 2)
			}
		}
	}
}

// P20.2: what is no release does not end the waiting: presses, events of keys that are up, and events of no key.
func TestWaitingGoesOn(t *testing.T) {
	m := start(t, Config{ROM: code(0x6A99, 0xFA0A), Profile: chip8})
	press(m, 1)
	press(m, 2)
	release(m, 2)
	steps(m, 2)
	for _, e := range []api.KeyEvent{
		{Key: 2}, {Key: 0}, {Key: 3, Down: true}, {Key: 3, Down: true}, {Key: 1, Down: true},
		{Key: 16}, {Key: 17}, {Key: -1}, {Key: -15}, {Key: 19}, {Key: math.MinInt}, {Key: math.MaxInt},
		{Key: 16, Down: true}, {Key: -1, Down: true},
	} {
		m.Key(e)
		m.Step()
		checkStatus(t, m, api.Status{Kind: api.Waiting}, 2)
	}
	if s := m.State(); s.V[10] != 0x99 || s.Pad != (keypad.Pad{Down: [16]bool{1: true, 3: true}}) {
		t.Errorf("VA %d, %v", s.V[10], s.Pad)
	}
	release(m, 3)
	release(m, 1) // the machine waits no more
	checkStatus(t, m, api.Status{}, 2)
	if s := m.State(); s.V[10] != 3 || s.Pad != (keypad.Pad{}) {
		t.Errorf("VA %d, %v", s.V[10], s.Pad)
	}
}

// P20.2: releases while a machine does not wait change only the keypad, also if it waited before.
func TestKeyOnlyChangesPad(t *testing.T) {
	for _, x := range []struct {
		p     api.Profile
		rom   []byte
		steps int
	}{
		{chip8, code(0x6B07, 0x1202), 0}, {chip8, code(0x6B07, 0x1202), 5},
		{schip, code(0x6B07, 0x00FD), 2}, {schip, code(0x6B07, 0xFFFF), 2}, {chip8, code(0x2200), 17},
	} {
		m := start(t, Config{ROM: x.rom, Profile: x.p, Cached: true})
		steps(m, x.steps)
		want := m.Snapshot()
		press(m, 9)
		want.State.Pad.Down[9] = true
		compareSnapshots(t, m.Snapshot(), want)
		press(m, 0)
		release(m, 9)
		want.State.Pad.Down = [16]bool{0: true}
		compareSnapshots(t, m.Snapshot(), want)
	}
	m := start(t, Config{ROM: code(0xFB0A, 0x1202), Profile: chip8})
	m.Step()
	press(m, 4)
	release(m, 4)
	want := m.Snapshot()
	press(m, 6)
	release(m, 6)
	compareSnapshots(t, m.Snapshot(), want)
}

// P20.2: timers tick whatever the status is, and nothing else changes.
func TestTick(t *testing.T) {
	for kind, rom := range [][]byte{
		api.Running: code(0x6003, 0x6101, 0xF015, 0xF118, 0x1208),
		api.Waiting: code(0x6003, 0x6101, 0xF015, 0xF118, 0xF00A),
		api.Halted:  code(0x6003, 0x6101, 0xF015, 0xF118, 0x00FD),
		api.Faulted: code(0x6003, 0x6101, 0xF015, 0xF118, 0xFFFF),
	} {
		m := start(t, Config{ROM: rom, Profile: schip, Cached: true})
		steps(m, 5)
		if m.Status().Kind != kind {
			t.Fatal(m.Status())
		}
		want := m.Snapshot()
		for _, left := range []timer.Timers{{Delay: 3, Sound: 1}, {Delay: 2}, {Delay: 1}, {}, {}} {
			want.State.Timers = left
			compareSnapshots(t, m.Snapshot(), want)
			m.Tick()
		}
	}
	m := start(t, Config{Profile: chip8})
	m.Tick()
	if s := m.State(); s.Timers != (timer.Timers{}) {
		t.Error(s.Timers)
	}
}

// P20.2: a step does not tick the timers, and a tick makes no step.
func TestStepAndTick(t *testing.T) {
	m := start(t, Config{ROM: code(0x6009, 0xF015, 0x1204), Profile: chip8})
	steps(m, 20)
	if s := m.State(); s.Timers.Delay != 9 || m.Executed() != 20 {
		t.Error(s.Timers, m.Executed())
	}
	m.Tick()
	if s := m.State(); s.Timers.Delay != 8 || m.Executed() != 20 {
		t.Error(s.Timers, m.Executed())
	}
}

// P20.2, P20.5: a program that stores registers over instructions executes the new ones, in front of and behind the store, and itself.
func TestSelfModifying(t *testing.T) {
	for _, cached := range []bool{true, false} {
		// The loop at 516 is executed twice: 6000 at 522 becomes 63C8, and then 64C8.
		m := start(t, Config{ROM: code(0x6063, 0x61C8, 0xA20A, 0xF155, 0x7001, 0x6000, 0x1204), Profile: chip8, Cached: cached})
		steps(m, 12)
		if s := m.State(); s.V[3] != 0xC8 || s.V[4] != 0xC8 || s.V[0] != 0x65 || s.PC != 516 {
			t.Errorf("cached %v: V %v, PC %d", cached, s.V, s.PC)
		}
		// The store at 518 replaces itself by a jump to itself, to which the jump behind it goes.
		m = start(t, Config{ROM: code(0x6012, 0x6106, 0xA206, 0xF155, 0x1206), Profile: chip8, Cached: cached})
		steps(m, 4)
		if cached {
			checkEntries(t, m, api.Chip8, 512, 514)
		}
		steps(m, 6)
		checkStatus(t, m, api.Status{}, 10)
		if s := m.State(); s.PC != 518 {
			t.Errorf("cached %v: PC %d", cached, s.PC)
		}
	}
}

// P20.2, P20.4, P20.5: each instruction that writes makes the entries invalid that have one of its bytes, and no other ones.
func TestWritesInvalidate(t *testing.T) {
	for _, x := range []struct {
		opcode int
		len    int
	}{
		{0xF033, 3}, {0xF055, 1}, {0xF155, 2}, {0xF555, 6}, {0xFF55, 16}, {0x5122, 2}, {0x5212, 2}, {0x5112, 1}, {0x50F2, 16},
		{0xF065, 0}, {0x5123, 0}, {0xF002, 0}, {0xD121, 0}, {0xF01E, 0},
	} {
		// There are instructions at 512 and all even addresses from 516 to 762, and the one to be tested is at 764.
		opcodes := []int{0xF000, 0x0280}
		for len(opcodes) < 126 {
			opcodes = append(opcodes, 0x6E00)
		}
		m := start(t, Config{ROM: code(append(opcodes, x.opcode)...), Profile: xochip, Cached: true})
		steps(m, 125)
		all := entries(m)
		if len(all) != 125 {
			t.Fatalf("%d entries", len(all))
		}
		m.Step()
		var want []int
		for _, a := range append(all, 764) {
			if x.len == 0 || a+4 <= 0x280 || a >= 0x280+x.len {
				want = append(want, a)
			}
		}
		checkEntries(t, m, api.XOChip, want...)
		if t.Failed() {
			t.Fatalf("%04X", x.opcode)
		}
	}
}

// P20.4: an entry becomes valid with the step that executes the instruction, or fails to do so; addresses are wrapped.
func TestEntry(t *testing.T) {
	rom := code(0x6A12, 0x1206, 0, 0xFFFF)
	m := start(t, Config{ROM: rom, Profile: xochip, Cached: true})
	checkEntries(t, m, api.XOChip)
	for _, want := range [][]int{{512}, {512, 514}, {512, 514, 518}, {512, 514, 518}} {
		m.Step()
		checkEntries(t, m, api.XOChip, want...)
	}
	set := api.Instr{Op: api.SetNN, X: 10, NN: 0x12, Len: 2}
	for _, a := range []int{512, 512 + size, 512 - size, 512 + size<<20} {
		if in, valid := m.Entry(a); in != set || !valid {
			t.Errorf("Entry(%d) = %+v, %v", a, in, valid)
		}
	}
	if in, valid := m.Entry(518); in != (api.Instr{Len: 2}) || !valid {
		t.Errorf("the entry of an illegal instruction is %+v, %v", in, valid)
	}
	for _, a := range []int{0, 511, 513, 516, 517, 519, 65535, -1, math.MinInt, math.MaxInt} {
		if in, valid := m.Entry(a); in != (api.Instr{}) || valid {
			t.Errorf("Entry(%d) = %+v, %v", a, in, valid)
		}
	}
	m = start(t, Config{ROM: rom, Profile: xochip})
	for range 4 {
		m.Step()
		checkEntries(t, m, api.XOChip)
	}
}

// P20.4: the cache has the level of the profile.
func TestEntryLevel(t *testing.T) {
	for _, p := range []api.Profile{chip8, schip, xochip} {
		for _, opcode := range []int{0x6A12, 0x00FF, 0x00D1, 0xF000} {
			want := decode.Decode([4]byte{byte(opcode >> 8), byte(opcode), 0x12, 0x34}, p.Level)
			c := Config{ROM: code(opcode, 0x1234), Profile: p, Cached: true}
			for _, m := range []*Machine{start(t, c), resume(t, c, placed(t, 512, 9, opcode, 0x1234))} {
				m.Step()
				if in, valid := m.Entry(512); in != want || !valid {
					t.Errorf("%04X for the level %d: %+v, %v, want %+v", opcode, p.Level, in, valid, want)
				}
			}
		}
	}
}

// P20.2, P20.4: the cache is flushed before the instruction is got, at the numbers of the list only, in any order and as often as they are there.
func TestFlush(t *testing.T) {
	rom := code(0x6A12, 0x6B12, 0x6C12, 0x1200)
	for _, x := range []struct {
		flush []int
		want  [][]int // after each step
	}{
		{nil, [][]int{{512}, {512, 514}, {512, 514, 516}, {512, 514, 516, 518}, {512, 514, 516, 518}}},
		{[]int{-1, 9, math.MinInt, math.MaxInt, 5}, [][]int{{512}, {512, 514}, {512, 514, 516}, {512, 514, 516, 518}, {512, 514, 516, 518}, {514}}},
		{[]int{0}, [][]int{{512}, {512, 514}, {512, 514, 516}}},
		{[]int{2}, [][]int{{512}, {512, 514}, {516}, {516, 518}, {512, 516, 518}}},
		{[]int{4, 2, 2, 4}, [][]int{{512}, {512, 514}, {516}, {516, 518}, {512}, {512, 514}}},
		{[]int{1, 2, 3, 4}, [][]int{{512}, {514}, {516}, {518}, {512}, {512, 514}}},
	} {
		m := start(t, Config{ROM: rom, Profile: chip8, Cached: true, Flush: x.flush})
		for _, want := range x.want {
			m.Step()
			checkEntries(t, m, api.Chip8, want...)
		}
		if t.Failed() {
			t.Fatal(x.flush)
		}
	}
}

// P20.2: a machine that does not run makes no step, and hence does not flush the cache either.
func TestFlushWhileWaiting(t *testing.T) {
	m := start(t, Config{ROM: code(0x6A12, 0xF00A, 0x00FD), Profile: schip, Cached: true, Flush: []int{2, 3}})
	steps(m, 5)
	checkEntries(t, m, api.SuperChip, 512, 514)
	press(m, 1)
	release(m, 1)
	checkEntries(t, m, api.SuperChip, 512, 514)
	steps(m, 5)
	checkEntries(t, m, api.SuperChip, 516)
	checkStatus(t, m, api.Status{Kind: api.Halted, PC: 516, Cycle: 2}, 3)
}

// P20.6: the register before, while and after a machine waits.
func TestSnapshotRegister(t *testing.T) {
	m := start(t, Config{ROM: code(0xF70A, 0xFE0A, 0x1204), Profile: chip8, Cached: true})
	check := func(register int) {
		t.Helper()
		want := Snapshot{State: m.State(), Status: m.Status(), Register: register, Executed: m.Executed()}
		compareSnapshots(t, m.Snapshot(), want)
	}
	check(0)
	m.Step()
	check(7)
	press(m, 1)
	check(7)
	release(m, 1)
	check(7)
	m.Step()
	check(14)
	press(m, 2)
	release(m, 2)
	steps(m, 9)
	check(14)
}

// P20.6: Resume takes all from the snapshot, and the profile, the list Flush and the cache from the configuration.
func TestResume(t *testing.T) {
	s, e := cpu.New(code(0x7A01, 0x00FF, 0x1200), []byte{7, 8, 9})
	if e != api.OK {
		t.Fatal(e)
	}
	s.V = [16]byte{1, 2, 3, 10: 77, 15: 9}
	s.I, s.PC = 900, 514
	s.Random.Next()
	s.Pad.Down[5] = true
	s.Timers = timer.Timers{Delay: 4, Sound: 6}
	s.Mem.Write(513, []byte{2})
	for _, status := range []api.Status{
		{}, {Kind: api.Waiting}, {Kind: api.Halted, PC: 700, Cycle: 3}, {Kind: api.Faulted, Cause: api.ErrReturn, PC: 800, Cycle: 1 << 40},
	} {
		for _, register := range []int{0, 7, 15} {
			for _, executed := range []int{0, 1, 12, 1 << 62} {
				x := Snapshot{State: s, Status: status, Register: register, Executed: executed}
				m := resume(t, Config{ROM: make([]byte, api.MaxROM+1), List: []byte{1}, Profile: xochip, Cached: true}, x)
				compareSnapshots(t, m.Snapshot(), x)
				checkStatus(t, m, status, executed)
				checkEntries(t, m, api.XOChip)
				press(m, 11)
				release(m, 11)
				want := Snapshot{State: cpu.Clone(s), Status: status, Register: register, Executed: executed}
				if status.Kind == api.Waiting {
					want.State.V[register], want.Status = 11, api.Status{}
				}
				compareSnapshots(t, m.Snapshot(), want)
			}
		}
	}
	if log := s.Mem.Dirty(); !slices.Equal(log, []mem.Range{{At: 513, Len: 1}}) {
		t.Errorf("the log of the argument is %v", log)
	}
}

// P20.6: the entries of a machine are not those of the one from which the snapshot is; the list Flush is that of the configuration.
func TestResumeCache(t *testing.T) {
	c := Config{ROM: code(0x6A12, 0x6B12, 0x6C12, 0x1200), Profile: chip8, Cached: true}
	old := start(t, c)
	steps(old, 3)
	c.Flush = []int{5}
	m := resume(t, c, old.Snapshot())
	for _, want := range [][]int{{}, {518}, {512, 518}, {514}, {514, 516}} {
		checkEntries(t, m, api.Chip8, want...)
		m.Step()
	}
	checkEntries(t, old, api.Chip8, 512, 514, 516)
	c.Cached = false
	m = resume(t, c, old.Snapshot())
	steps(m, 5)
	checkEntries(t, m, api.Chip8)
}

// P20.6: the profile counts from the snapshot on.
func TestResumeProfile(t *testing.T) {
	old := start(t, Config{ROM: code(0x00FF, 0xFFFF), Profile: schip, Cached: true})
	for _, x := range []struct {
		p      api.Profile
		status api.Status
	}{
		{chip8, api.Status{Kind: api.Faulted, Cause: api.ErrIllegal, PC: 512}}, {schip, api.Status{}}, {xochip, api.Status{}},
	} {
		m := resume(t, Config{Profile: x.p, Cached: true}, old.Snapshot())
		m.Step()
		checkStatus(t, m, x.status, 1)
	}
}

// P20.6: what cannot be resumed.
func TestResumeErrors(t *testing.T) {
	good := start(t, Config{ROM: code(0x1200), Profile: chip8}).Snapshot()
	with := func(f func(x *Snapshot)) Snapshot {
		x := cloned(good)
		f(&x)
		return x
	}
	kind := func(n int) Snapshot { return with(func(x *Snapshot) { x.Status.Kind = n }) }
	register := func(n int) Snapshot { return with(func(x *Snapshot) { x.Register = n }) }
	executed := func(n int) Snapshot { return with(func(x *Snapshot) { x.Executed = n }) }
	ok := []Snapshot{good, kind(1), kind(2), kind(3), register(0), register(15), executed(0), executed(math.MaxInt)}
	bad := []Snapshot{
		{}, {State: &cpu.State{}},
		with(func(x *Snapshot) { x.State = nil }), with(func(x *Snapshot) { x.State.Mem = nil }), with(func(x *Snapshot) { x.State.Random = nil }),
		kind(-1), kind(4), kind(math.MinInt), kind(math.MaxInt), register(-1), register(16), register(math.MinInt), register(math.MaxInt),
		executed(-1), executed(math.MinInt),
	}
	for i, x := range ok {
		resume(t, Config{Profile: xochip}, x)
		for _, level := range []int{0, 4, -1, math.MaxInt} {
			if m, e := Resume(Config{Profile: api.Profile{Level: level}}, x); m != nil || e != api.ErrArg {
				t.Errorf("snapshot %d for the level %d: %v, %v", i, level, m, e)
			}
		}
	}
	for i, x := range bad {
		for _, p := range []api.Profile{chip8, {}} {
			if m, e := Resume(Config{Profile: p, Cached: true}, x); m != nil || e != api.ErrArg {
				t.Errorf("wrong snapshot %d: %v, %v", i, m, e)
			}
		}
	}
}

// P20.7: New changes neither its arguments nor the capacity behind them, and retains nothing of them.
func TestNewArguments(t *testing.T) {
	rom, list, flush := append(code(0x6A12, 0xCBFF, 0xA200, 0xF155, 0x1200), 9, 9), []byte{3, 4, 5}, []int{2, 1, 7, 8}
	rom0, list0, flush0 := slices.Clone(rom), slices.Clone(list), slices.Clone(flush)
	c := Config{ROM: rom[:10], List: list[:2], Profile: chip8, Cached: true, Flush: flush[:2]}
	m := start(t, c)
	steps(m, 4)
	if !bytes.Equal(rom, rom0) || !bytes.Equal(list, list0) || !slices.Equal(flush, flush0) {
		t.Errorf("the arguments are %v, %v, %v now", rom, list, flush)
	}
	m = start(t, c)
	clear(rom)
	clear(list)
	clear(flush)
	m.Step()
	checkEntries(t, m, api.Chip8, 512)
	m.Step()
	checkEntries(t, m, api.Chip8, 514) // it was flushed at 1
	if s := m.State(); s.V[10] != 0x12 || s.V[11] != 3 || !bytes.Equal(s.Random.List(), []byte{3, 4}) {
		t.Errorf("V %v, %v", s.V, s.Random.List())
	}
}

// change changes all parts of a state that it may share with another one, and some others.
func change(s *cpu.State) {
	s.Mem.Write(0, bytes.Repeat([]byte{0xEE}, size))
	s.Random.Next()
	s.V[3]++
	s.PC++
	s.Pad.Down[2] = true
	s.Stack.Slots[0]++
	s.Screen.Planes[0].Rows[0].High++
}

// P20.3, P20.6, P20.7: results and arguments share no memory with the machine.
func TestIndependence(t *testing.T) {
	c := Config{ROM: code(0x7A01, 0xCBFF, 0x1200), List: []byte{1, 2, 3}, Profile: chip8, Cached: true}
	m, twin := start(t, c), start(t, c)
	steps(m, 5)
	steps(twin, 5)
	first, x := m.State(), m.Snapshot()
	if first == m.State() || x.State == m.Snapshot().State || first.Mem == x.State.Mem || first.Random == x.State.Random {
		t.Error("results share memory")
	}
	m2 := resume(t, c, x)
	change(first)
	change(x.State)
	compareSnapshots(t, m.Snapshot(), twin.Snapshot())
	compareSnapshots(t, m2.Snapshot(), twin.Snapshot())
	first, x = m.State(), m.Snapshot()
	kept := cpu.Clone(first)
	for _, n := range []*Machine{m, m2} {
		steps(n, 7)
		n.Tick()
		press(n, 4)
		n.now.State.Mem.Write(0, []byte{1, 2, 3})
		compare(t, first, kept)
		compare(t, x.State, kept)
	}
	if log := first.Mem.Dirty(); len(log) != 0 {
		t.Errorf("the log of a result is %v", log)
	}
}

// P20.7: a resumed machine leaves the state of the snapshot as it is, and two of them do not disturb each other.
func TestResumeArguments(t *testing.T) {
	flush := []int{4, 0, 6}
	c := Config{ROM: code(0xA300, 0x6005, 0xFF55, 0xC1FF, 0x7A01, 0x1208), List: []byte{1, 2, 3}, Profile: chip8, Cached: true, Flush: flush}
	m := start(t, c)
	m.Step()
	x := m.Snapshot()
	kept := cloned(x)
	a, b := resume(t, c, x), resume(t, c, x)
	steps(a, 50)
	release(a, 0)
	a.Tick()
	compareSnapshots(t, x, kept)
	compareSnapshots(t, b.Snapshot(), kept)
	if !slices.Equal(flush, []int{4, 0, 6}) {
		t.Error(flush)
	}
}

// P20.1 to P20.6: a nil Machine, and the zero one, about which nothing is promised.
func TestNil(t *testing.T) {
	for _, m := range []*Machine{nil, {}} {
		for range 2 {
			press(m, 3)
			release(m, 3)
			m.Tick()
			if m.Step() {
				t.Error("Drew")
			}
			checkStatus(t, m, api.Status{}, 0)
			if s := m.State(); s != nil {
				t.Error(s)
			}
			if x := m.Snapshot(); x != (Snapshot{}) {
				t.Error(x)
			}
			for _, a := range []int{0, 512, -1, math.MaxInt} {
				if in, valid := m.Entry(a); in != (api.Instr{}) || valid {
					t.Errorf("Entry(%d) = %+v, %v", a, in, valid)
				}
			}
		}
	}
}

// P20.2, P20.6: the number of executed instructions never becomes negative.
func TestExecutedLimit(t *testing.T) {
	c := Config{Profile: chip8, Flush: []int{math.MaxInt, math.MinInt}}
	m := resume(t, c, placed(t, 512, math.MaxInt-1, 0x1200))
	for range 3 {
		m.Step()
		checkStatus(t, m, api.Status{}, math.MaxInt)
		resume(t, c, m.Snapshot())
	}
}

// A status that no machine comes to is kept until it changes, and then nothing of it is left.
func TestOtherStatus(t *testing.T) {
	x := placed(t, 512, 3, 0xF20A, 0xF30A)
	x.Status = api.Status{Kind: api.Waiting, Cause: api.ErrForm, PC: 77, Cycle: 88}
	m := resume(t, Config{Profile: chip8}, x)
	m.Step()
	checkStatus(t, m, x.Status, 3)
	press(m, 9)
	release(m, 9)
	checkStatus(t, m, api.Status{}, 3)
	x.Status.Kind = api.Running
	m = resume(t, Config{Profile: chip8}, x)
	m.Step()
	checkStatus(t, m, api.Status{Kind: api.Waiting}, 4)
}

// For states that are not specified, the methods only end without a panic.
func TestWrongStates(t *testing.T) {
	for _, n := range []int{-1, -2, -65537, math.MinInt, 16, 17, 65536, 1 << 32, math.MaxInt} {
		for _, p := range []api.Profile{chip8, fault(schip), xochip, fault(xochip)} {
			for _, opcode := range []int{0x00EE, 0x2300, 0xD123, 0xF255, 0xF265, 0x3A12, 0xF000, 0xF00A, 0x00FD} {
				x := placed(t, n&0xFFFF, 0, opcode)
				x.State.PC, x.State.I, x.State.Screen.Mask, x.State.Stack.Depth = n, n, n, n
				m := resume(t, Config{Profile: p, Cached: true}, x)
				for range 3 {
					m.Step()
					press(m, n)
					release(m, n)
					m.Tick()
				}
				m.Snapshot()
			}
		}
	}
}
