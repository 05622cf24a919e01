package frame

import (
	"bytes"
	"math"
	"slices"
	"testing"

	"cosmac/api"
	"cosmac/audio"
	"cosmac/cpu"
	"cosmac/machine"
	"cosmac/plane"
	"cosmac/row"
	"cosmac/screen"
	"cosmac/timer"
)

const size = 65536

var (
	chip8  = api.Profile{Level: api.Chip8}
	schip  = api.Profile{Level: api.SuperChip}
	xochip = api.Profile{Level: api.XOChip}
)

// waits returns a profile with the quirk DisplayWait.
func waits(p api.Profile) api.Profile {
	p.DisplayWait = true
	return p
}

// code returns the bytes of opcodes.
func code(opcodes ...int) []byte {
	var b []byte
	for _, o := range opcodes {
		b = append(b, byte(o>>8), byte(o))
	}
	return b
}

// initial returns the initial machine of a configuration.
func initial(t *testing.T, c machine.Config) *machine.Machine {
	t.Helper()
	m, e := machine.New(c)
	if m == nil || e != api.OK {
		t.Fatalf("New = %v, %v", m, e)
	}
	return m
}

// start returns an initial machine with a program.
func start(t *testing.T, p api.Profile, opcodes ...int) *machine.Machine {
	t.Helper()
	return initial(t, machine.Config{ROM: code(opcodes...), Profile: p, Cached: true})
}

// resume returns a machine that goes on from a snapshot.
func resume(t *testing.T, p api.Profile, x machine.Snapshot) *machine.Machine {
	t.Helper()
	m, e := machine.Resume(machine.Config{Profile: p, Cached: true}, x)
	if m == nil || e != api.OK {
		t.Fatalf("Resume = %v, %v", m, e)
	}
	return m
}

// with returns a running machine whose program is an endless loop, after a change of its state.
func with(t *testing.T, change func(s *cpu.State)) *machine.Machine {
	t.Helper()
	s, e := cpu.New(code(0x1200), []byte{1})
	if e != api.OK {
		t.Fatal(e)
	}
	change(s)
	return resume(t, xochip, machine.Snapshot{State: s})
}

// run runs a frame that is not rejected.
func run(t *testing.T, m *machine.Machine, n int, l ...api.KeyEvent) Record {
	t.Helper()
	r, e := Run(m, l, n)
	if e != api.OK {
		t.Fatalf("Run with %d cycles = %v", n, e)
	}
	return r
}

// press is the event that a key is pressed, and release that it is released.
func press(key int) api.KeyEvent   { return api.KeyEvent{Key: key, Down: true} }
func release(key int) api.KeyEvent { return api.KeyEvent{Key: key} }

// checkStatus compares the status in a record with that of a machine and with the wanted one, and the number of executed instructions with the wanted one.
func checkStatus(t *testing.T, m *machine.Machine, r Record, status api.Status, executed int) {
	t.Helper()
	if r.Status != status || m.Status() != status || m.Executed() != executed {
		t.Errorf("%+v in the record, %+v after %d instructions; want %+v after %d", r.Status, m.Status(), m.Executed(), status, executed)
	}
}

// checkTimers compares the timers of a machine.
func checkTimers(t *testing.T, m *machine.Machine, delay, sound byte) {
	t.Helper()
	if got := m.State().Timers; got != (timer.Timers{Delay: delay, Sound: sound}) {
		t.Errorf("timers %+v, want %d and %d", got, delay, sound)
	}
}

// compareSnapshots compares all contents of two snapshots, but the logs of their memories.
func compareSnapshots(t *testing.T, got, want machine.Snapshot) {
	t.Helper()
	if got.Status != want.Status || got.Register != want.Register || got.Executed != want.Executed {
		t.Errorf("%+v, register %d, executed %d; want %+v, register %d, executed %d",
			got.Status, got.Register, got.Executed, want.Status, want.Register, want.Executed)
	}
	g, w := *got.State, *want.State
	if !bytes.Equal(g.Mem.Bytes(0, size), w.Mem.Bytes(0, size)) || g.Random.Count() != w.Random.Count() {
		t.Error("the memories or the streams differ")
	}
	g.Mem, g.Random, w.Mem, w.Random = nil, nil, nil, nil
	if g != w {
		t.Errorf("V %v, I %d, PC %d, %v, %v, %v; want V %v, I %d, PC %d, %v, %v, %v; or another part differs",
			g.V, g.I, g.PC, g.Stack, g.Pad, g.Timers, w.V, w.I, w.PC, w.Stack, w.Pad, w.Timers)
	}
}

// kinds returns machines of all kinds of status, with timers, each of which had one frame.
func kinds(t *testing.T, delay, sound int) [4]*machine.Machine {
	t.Helper()
	set := []int{0x6000 | delay, 0xF015, 0x6000 | sound, 0xF018}
	var l [4]*machine.Machine
	for kind, last := range [4]int{0x1208, 0xF50A, 0x00FD, 0x00EE} {
		l[kind] = start(t, schip, append(slices.Clone(set), last)...)
		if r := run(t, l[kind], 5); r.Status.Kind != kind || l[kind].Executed() != 5 {
			t.Fatalf("the status of the kind %d is %+v", kind, r.Status)
		}
	}
	return l
}

// P21.2: each part of a record is that of the state or the status, and the machine is not changed.
func TestOf(t *testing.T) {
	status := api.Status{Kind: api.Faulted, Cause: api.ErrRange, PC: 700, Cycle: 9}
	want := Record{Hires: true, Sound: true, Pattern: [16]byte{15: 4, 0: 3}, Pitch: 200, Status: status}
	for i := range want.Planes {
		want.Planes[i].Rows[60+i] = row.Row{High: uint64(i + 1), Low: 1 << 63}
	}
	s, e := cpu.New(code(0x1200), nil)
	if e != api.OK {
		t.Fatal(e)
	}
	s.Screen = screen.Screen{Planes: want.Planes, Hires: true, Mask: 5}
	s.Audio = audio.Audio{Pattern: want.Pattern, Pitch: want.Pitch}
	s.Timers = timer.Timers{Delay: 8, Sound: 1}
	x := machine.Snapshot{State: s, Status: status, Register: 4, Executed: 11}
	m := resume(t, xochip, x)
	for range 3 {
		if r := Of(m); r != want {
			t.Errorf("Of = %+v, want %+v", r, want)
		}
	}
	compareSnapshots(t, m.Snapshot(), x)
}

// P21.2: the record of an initial machine, and of one with a cache whose entries stay.
func TestOfInitial(t *testing.T) {
	m := start(t, chip8, 0x6001, 0x1202)
	if r := Of(m); r != (Record{Pitch: 64}) {
		t.Errorf("Of = %+v", r)
	}
	m.Step()
	Of(m)
	if _, valid := m.Entry(512); !valid || m.Executed() != 1 {
		t.Errorf("the entry at 512 is valid: %v, after %d instructions", valid, m.Executed())
	}
}

// P21.2: the sound is on for all values of the sound timer but 0, whatever the delay timer is.
func TestOfSound(t *testing.T) {
	for sound := range 256 {
		for _, delay := range []byte{0, 1, 255} {
			m := with(t, func(s *cpu.State) { s.Timers = timer.Timers{Delay: delay, Sound: byte(sound)} })
			if r := Of(m); r.Sound != (sound > 0) {
				t.Errorf("with the sound timer %d and the delay timer %d, Sound is %v", sound, delay, r.Sound)
			}
		}
	}
}

// P21.1: the record has what the steps of the frame changed.
func TestRunRecord(t *testing.T) {
	m := start(t, xochip,
		0x00FF, 0xF201, 0x6003, 0xF029, 0xD015, // the high resolution, the plane 1, the digit 3 at (3, 0)
		0x6155, 0xF13A, 0xA200, 0xF002, 0xF118, 0x00FD)
	want := Record{Hires: true, Sound: true, Pitch: 0x55, Status: api.Status{Kind: api.Halted, PC: 532, Cycle: 10}}
	copy(want.Pattern[:], m.State().Mem.Bytes(512, 16))
	for i, bits := range []uint64{0xF0, 0x10, 0xF0, 0x10, 0xF0} {
		want.Planes[1].Rows[i].High = bits << 53
	}
	if r := run(t, m, 100); r != want {
		t.Errorf("Run = %+v, want %+v", r, want)
	}
	checkTimers(t, m, 0, 0x54)
}

// P21.1: without a reason to end, a frame has as many steps as cycles, from 0 to the greatest number; a jump to itself executes all of them.
func TestRunCycles(t *testing.T) {
	m := start(t, chip8, 0x1200)
	executed := 0
	for _, n := range []int{0, 1, 2, 3, 10, 1000, api.MaxCycles - 1, 0, api.MaxCycles} {
		r := run(t, m, n)
		executed += n
		checkStatus(t, m, r, api.Status{}, executed)
	}
}

// P21.1: numbers of cycles that are none are rejected, and nothing happens.
func TestRunErrors(t *testing.T) {
	for kind, m := range kinds(t, 9, 7) {
		m.Key(press(4))
		before := m.Snapshot()
		for _, n := range []int{-1, -2, -65535, math.MinInt, 65536, 65537, 131071, math.MaxInt} {
			if r, e := Run(m, []api.KeyEvent{press(3), release(4)}, n); r != (Record{}) || e != api.ErrArg {
				t.Errorf("kind %d: Run with %d cycles = %+v, %v", kind, n, r, e)
			}
		}
		compareSnapshots(t, m.Snapshot(), before)
	}
}

// P21.1: the key events are applied one after the other, also without cycles, and whatever the status is.
func TestRunEvents(t *testing.T) {
	for kind := range kinds(t, 0, 0) {
		for _, n := range []int{0, 1, 9} {
			m := kinds(t, 0, 0)[kind]
			run(t, m, n, press(1), press(2), release(1), press(15), release(15), press(15), release(7), press(16), press(-1))
			if pad := m.State().Pad.Down; pad != [16]bool{2: true, 15: true} {
				t.Errorf("kind %d: the keypad is %v", kind, pad)
			}
			run(t, m, n, release(2))
			run(t, m, n)
			if pad := m.State().Pad.Down; pad != [16]bool{15: true} {
				t.Errorf("kind %d: the keypad is %v", kind, pad)
			}
		}
	}
}

// P21.1: the steps come after the events: the first one sees the keys.
func TestRunEventsFirst(t *testing.T) {
	m := start(t, chip8, 0x6005, 0xE09E, 0x1200, 0x6101, 0x1208)
	run(t, m, 100, press(6))
	if v := m.State().V[1]; v != 0 {
		t.Errorf("V1 is %d before the key 5 is down", v)
	}
	run(t, m, 4, press(5))
	if v := m.State().V[1]; v != 1 {
		t.Errorf("V1 is %d after the key 5 is down", v)
	}
}

// P21.1, P21.4: a frame ends when the machine waits for a key; it goes on after a release, with all of the cycles of the next frame.
func TestRunWaiting(t *testing.T) {
	m := start(t, chip8, 0x6009, 0xF015, 0xF30A, 0x1206)
	waiting := api.Status{Kind: api.Waiting}
	// The release in the frame of FX0A is before the steps: it ends nothing.
	r := run(t, m, 50, press(4), press(7), release(7))
	checkStatus(t, m, r, waiting, 3)
	r = run(t, m, 50)
	checkStatus(t, m, r, waiting, 3)
	r = run(t, m, 50, press(11), release(6))
	checkStatus(t, m, r, waiting, 3)
	checkTimers(t, m, 6, 0)
	r = run(t, m, 50, release(11), release(4))
	checkStatus(t, m, r, api.Status{}, 53)
	checkTimers(t, m, 5, 0)
	if v := m.State().V[3]; v != 11 {
		t.Errorf("V3 is %d, want the first key that was released", v)
	}
}

// P21.1: a release ends the waiting also in a frame without cycles.
func TestRunReleaseOnly(t *testing.T) {
	m := start(t, chip8, 0xF00A, 0x1202)
	r := run(t, m, 1)
	checkStatus(t, m, r, api.Status{Kind: api.Waiting}, 1)
	r = run(t, m, 0, press(3), release(3), press(8), release(8))
	checkStatus(t, m, r, api.Status{}, 1)
	if v := m.State().V[0]; v != 3 {
		t.Errorf("V0 is %d", v)
	}
}

// P21.1, P21.4: after a halt or a fault, nothing is executed, but the timers tick.
func TestRunEnded(t *testing.T) {
	for _, x := range []struct {
		last   int
		status api.Status
	}{
		{0x00FD, api.Status{Kind: api.Halted, PC: 518, Cycle: 3}},
		{0x00EE, api.Status{Kind: api.Faulted, Cause: api.ErrReturn, PC: 518, Cycle: 3}},
		{0x0000, api.Status{Kind: api.Faulted, Cause: api.ErrIllegal, PC: 518, Cycle: 3}},
	} {
		m := start(t, schip, 0x6003, 0xF018, 0xF015, x.last, 0x6777)
		for i, sound := range []bool{true, true, true, false, false} {
			r := run(t, m, 5)
			checkStatus(t, m, r, x.status, 4)
			if left := byte(max(0, 2-i)); r.Sound != sound {
				t.Errorf("frame %d: Sound is %v", i, r.Sound)
			} else {
				checkTimers(t, m, left, left)
			}
		}
	}
}

// P21.1: under DisplayWait, a draw in the low resolution is the last step of a frame; drawing otherwise is not.
func TestRunDrew(t *testing.T) {
	low, high := []int{0x00FE, 0xD001, 0x6101, 0x1202}, []int{0x00FF, 0xD001, 0x6101, 0x1202}
	for _, x := range []struct {
		p       api.Profile
		opcodes []int
		n       int
		ends    [3]int // the numbers of executed instructions after three frames
	}{
		{waits(chip8), []int{0xD001, 0x1200}, 10, [3]int{1, 3, 5}},
		{waits(chip8), []int{0x6101, 0xD001, 0x1200}, 2, [3]int{2, 4, 5}},
		{waits(chip8), []int{0x6101, 0xD001, 0x1200}, 1, [3]int{1, 2, 3}},
		{waits(schip), low, 10, [3]int{2, 5, 8}},
		{waits(schip), high, 10, [3]int{10, 20, 30}},
		{waits(xochip), []int{0xD000, 0x1200}, 10, [3]int{1, 3, 5}},
		{waits(xochip), []int{0x00E0, 0x00C1, 0x00FB, 0xF301, 0x1200}, 10, [3]int{10, 20, 30}},
		{chip8, []int{0xD001, 0x1200}, 10, [3]int{10, 20, 30}},
		{schip, low, 10, [3]int{10, 20, 30}},
		{xochip, []int{0xD000, 0x1200}, 10, [3]int{10, 20, 30}},
	} {
		m := start(t, x.p, x.opcodes...)
		for _, executed := range x.ends {
			r := run(t, m, x.n)
			checkStatus(t, m, r, api.Status{}, executed)
		}
	}
}

// P21.1: the record of a frame that a draw ends shows what was drawn.
func TestRunDrewRecord(t *testing.T) {
	m := start(t, waits(chip8), 0xA200, 0xD011, 0x7001, 0x1202) // the row A2 at (V0, V1)
	want := Record{Pitch: 64}
	want.Planes[0] = plane.Sprite([]uint16{0xA2}, 8, 0, 0, false, false)
	if r := run(t, m, 9); r != want {
		t.Errorf("Run = %+v, want %+v", r, want)
	}
	want.Planes[0], _ = plane.Draw(want.Planes[0], plane.Sprite([]uint16{0xA2}, 8, 1, 0, false, false))
	if r := run(t, m, 9); r != want {
		t.Errorf("Run = %+v, want %+v", r, want)
	}
}

// P21.1, P21.4: the sound of a record is that before the tick, in the chapter's example: two frames for the value 2.
func TestRunSound(t *testing.T) {
	for _, value := range []int{0, 1, 2, 3, 7, 127, 128, 129, 254, 255} {
		m := start(t, chip8, 0x6000|value, 0xF018, 0x1204)
		on := 0
		for i := range 258 {
			r := run(t, m, 3)
			if r.Sound {
				on++
			}
			if r.Sound != (i < value) {
				t.Errorf("with the value %d, Sound of the frame %d is %v", value, i, r.Sound)
			}
		}
		if on != value {
			t.Errorf("with the value %d, the sound is on in %d frames", value, on)
		}
	}
}

// P21.4: the timers tick once a frame, at its end, for all values, kinds of status and numbers of cycles.
func TestRunTicks(t *testing.T) {
	for _, x := range [][2]int{{0, 0}, {1, 2}, {2, 1}, {0, 5}, {255, 254}, {100, 255}} {
		for kind, m := range kinds(t, x[0], x[1]) {
			for j := 1; j < 260; j++ { // one frame has ended already
				delay, sound := max(0, x[0]-j), max(0, x[1]-j)
				checkTimers(t, m, byte(delay), byte(sound))
				if r := run(t, m, j%3); r.Sound != (sound > 0) || r.Status.Kind != kind {
					t.Errorf("kind %d: Sound is %v, want %v; %+v", kind, r.Sound, sound > 0, r.Status)
				}
			}
		}
	}
}

// P21.4: a program that sets the timers anew in some frames, and reads the delay timer in the first step of the next ones.
func TestRunSetAgain(t *testing.T) {
	m := start(t, chip8, 0xF207, 0x7005, 0xF015, 0xF018, 0x1200)
	for i, want := range []struct{ read, delay byte }{{0, 4}, {4, 9}, {9, 14}, {14, 19}} {
		if r := run(t, m, 5); !r.Sound {
			t.Errorf("frame %d: the sound is not on", i)
		}
		checkTimers(t, m, want.delay, want.delay)
		if v := m.State().V[2]; v != want.read {
			t.Errorf("frame %d: read %d, want %d", i, v, want.read)
		}
	}
}

// P21.3: the number of frames with sound, and the timers after them, for numbers of frames below and above the values of the timers.
func TestIdle(t *testing.T) {
	numbers := []int{0, 1, 2, 3, 4, 8, 9, 10, 127, 128, 253, 254, 255, 256, 257, 511, 512, 999, 1000}
	for _, x := range [][2]byte{{0, 0}, {0, 1}, {1, 0}, {3, 9}, {9, 3}, {255, 0}, {0, 255}, {255, 254}, {254, 255}} {
		for _, n := range numbers {
			m := with(t, func(s *cpu.State) { s.Timers = timer.Timers{Delay: x[0], Sound: x[1]} })
			if got, want := Idle(m, n), min(n, int(x[1])); got != want {
				t.Fatalf("with the sound timer %d, Idle for %d frames = %d, want %d", x[1], n, got, want)
			}
			checkTimers(t, m, byte(max(0, int(x[0])-n)), byte(max(0, int(x[1])-n)))
		}
	}
}

// P21.3: idle frames do what frames without events and cycles do, for all kinds of status: no step, and nothing but ticks.
func TestIdleFrames(t *testing.T) {
	for _, n := range []int{0, 1, 2, 5, 8, 9, 10, 11, 300, 1000} {
		idle, one := kinds(t, 10, 6), kinds(t, 10, 6)
		for kind, m := range idle {
			m.Key(press(13))
			one[kind].Key(press(13))
			on := 0
			for range n {
				if r := run(t, one[kind], 0); r.Sound {
					on++
				}
			}
			if got := Idle(m, n); got != on {
				t.Errorf("kind %d: Idle for %d frames = %d, want %d", kind, n, got, on)
			}
			compareSnapshots(t, m.Snapshot(), one[kind].Snapshot())
		}
	}
}

// Rule 5: key events are neither changed nor kept, nor is what is behind them.
func TestArguments(t *testing.T) {
	all := []api.KeyEvent{press(1), press(2), release(1), press(30), press(9)}
	before := slices.Clone(all)
	m := start(t, chip8, 0xF50A, 0x1202)
	run(t, m, 7)
	run(t, m, 7, all[:3]...)
	if !slices.Equal(all, before) {
		t.Errorf("the events are %v", all)
	}
	clear(all)
	if s := m.State(); s.Pad.Down != [16]bool{2: true} || s.V[5] != 1 {
		t.Errorf("the keypad is %v, V5 is %d", s.Pad.Down, s.V[5])
	}
}

// Calls for which the chapter promises nothing end, and without a panic.
func TestUnspecified(t *testing.T) {
	for _, m := range []*machine.Machine{nil, new(machine.Machine)} {
		run(t, m, api.MaxCycles, press(1))
		Of(m)
		Idle(m, 1000)
	}
	for _, n := range []int{math.MinInt, -1, 1001, math.MaxInt} {
		Idle(start(t, chip8, 0x1200), n)
		Idle(with(t, func(s *cpu.State) { s.Timers = timer.Timers{Delay: 255, Sound: 9} }), n)
	}
}
