package script

import (
	"math"
	"slices"
	"testing"

	"cosmac/api"
	"cosmac/frame"
	"cosmac/machine"
	"cosmac/plane"
	"cosmac/profile"
)

var (
	chip8  = api.Profile{Level: api.Chip8}
	schip  = api.Profile{Level: api.SuperChip}
	xochip = api.Profile{Level: api.XOChip}
)

// code returns the bytes of opcodes.
func code(opcodes ...int) []byte {
	var b []byte
	for _, o := range opcodes {
		b = append(b, byte(o>>8), byte(o))
	}
	return b
}

// idle returns n frames without events.
func idle(n int) [][]api.KeyEvent { return make([][]api.KeyEvent, n) }

// press is the event that a key is pressed, and release that it is released.
func press(key int) api.KeyEvent   { return api.KeyEvent{Key: key, Down: true} }
func release(key int) api.KeyEvent { return api.KeyEvent{Key: key} }

// run runs a script that is neither wrong nor rejected, and returns its records.
func run(t *testing.T, s Script) []frame.Record {
	t.Helper()
	r, e := Run(s)
	if e != api.OK || r.Rejected || len(r.Records) != len(s.Frames) {
		t.Fatalf("Run = Rejected %v, %d records, %v; want %d records", r.Rejected, len(r.Records), e, len(s.Frames))
	}
	return r.Records
}

// statuses returns the statuses of records.
func statuses(l []frame.Record) []api.Status {
	var out []api.Status
	for _, r := range l {
		out = append(out, r.Status)
	}
	return out
}

// checkStatuses compares the statuses of records.
func checkStatuses(t *testing.T, got []frame.Record, want ...api.Status) {
	t.Helper()
	if l := statuses(got); !slices.Equal(l, want) {
		t.Errorf("statuses %+v, want %+v", l, want)
	}
}

// checkEmpty checks that a result has no records.
func checkEmpty(t *testing.T, r Result, rejected bool) {
	t.Helper()
	if r.Rejected != rejected || len(r.Records) != 0 {
		t.Errorf("Rejected %v and %d records, want Rejected %v and none", r.Rejected, len(r.Records), rejected)
	}
}

// P22.1: one record for each frame, in order, each with what the frames before it left.
func TestRunRecords(t *testing.T) {
	// Each frame draws one more pixel in the row 0, at 0, 1, 2 and so on, and makes V0 one greater.
	s := Script{ROM: code(0xA20A, 0xD011, 0x7001, 0x1202, 0x0000, 0x8000), Profile: chip8, Cycles: 4, Cached: true, Frames: idle(9)}
	s.Profile.DisplayWait = true
	for i, r := range run(t, s) {
		for x := range 64 {
			if plane.Pixel(r.Planes[0], x, 0) != (x <= i) {
				t.Errorf("frame %d: the pixel %d is %v", i, x, x > i)
			}
		}
		if n := plane.Count(r.Planes[0]); n != i+1 || r.Pitch != 64 || r.Hires || r.Sound || r.Status != (api.Status{}) {
			t.Errorf("frame %d: %d pixels, %+v", i, n, r.Status)
		}
	}
}

// P22.1: the events of each frame are those at its index, and come before its steps.
func TestRunEvents(t *testing.T) {
	s := Script{ROM: code(0xF00A, 0x4003, 0x00FD, 0x1200), Profile: schip, Cycles: 10, Cached: true}
	// The release of the key 4 makes the program wait again, and that of the key 3 ends it.
	s.Frames = [][]api.KeyEvent{nil, {press(3)}, {press(4), release(4), press(4)}, {release(3)}, nil}
	waiting := api.Status{Kind: api.Waiting}
	halted := api.Status{Kind: api.Halted, PC: 516, Cycle: 5}
	checkStatuses(t, run(t, s), waiting, waiting, waiting, halted, halted)
	s.Frames[2], s.Frames[3] = s.Frames[3], s.Frames[2]
	halted.Cycle = 2
	checkStatuses(t, run(t, s), waiting, waiting, halted, halted, halted)
}

// P22.1: each frame has the cycles of the script.
func TestRunCycles(t *testing.T) {
	for n := range 12 {
		s := Script{ROM: code(0x7001, 0x7001, 0x7001, 0x7001, 0x7001, 0x00FD), Profile: schip, Cycles: n, Cached: true, Frames: idle(4)}
		want := make([]api.Status, 4)
		for i := range want {
			if (i+1)*n >= 6 {
				want[i] = api.Status{Kind: api.Halted, PC: 522, Cycle: 5}
			}
		}
		checkStatuses(t, run(t, s), want...)
	}
}

// P22.1: the numbers of cycles up to the greatest one are the numbers of instructions of a frame.
func TestRunMaxCycles(t *testing.T) {
	// A loop of two instructions, which halts after the key 0 is pressed in the frame 1.
	s := Script{ROM: code(0xE09E, 0x1200, 0x00FD), Profile: schip, Cached: true, Frames: idle(5)}
	s.Frames[1] = []api.KeyEvent{press(0)}
	for _, n := range []int{1, 2, 3, 10, 1000, api.MaxCycles - 1, api.MaxCycles} {
		s.Cycles = n
		records := run(t, s)
		if records[0].Status != (api.Status{}) {
			t.Errorf("%d cycles: %+v after a frame", n, records[0].Status)
		}
		checkStatuses(t, records[4:], api.Status{Kind: api.Halted, PC: 516, Cycle: n + 1 + n%2})
	}
	s.Cycles = 0
	checkStatuses(t, run(t, s), make([]api.Status, 5)...)
}

// P22.1: the bytes that stand in for random numbers are those of List, one after the other over all frames.
func TestRunList(t *testing.T) {
	s := Script{ROM: code(0xC0FF, 0xF03A, 0x1200), Profile: xochip, Cycles: 3, Cached: true, Frames: idle(7)}
	for _, list := range [][]byte{nil, {7}, {9, 200}, {1, 2, 3}} {
		s.List = list
		for i, r := range run(t, s) {
			want := byte(0)
			if len(list) > 0 {
				want = list[i%len(list)]
			}
			if r.Pitch != want {
				t.Errorf("with the list %v, frame %d: the pitch is %d, want %d", list, i, r.Pitch, want)
			}
		}
	}
}

// P22.1: the profile is that of the script: 8XY6 shifts VY or VX, and 00FD is illegal for Chip8.
func TestRunProfile(t *testing.T) {
	s := Script{ROM: code(0x6008, 0x6106, 0x8016, 0xF03A, 0x00FD), Profile: xochip, Cycles: 9, Cached: true, Frames: idle(1)}
	for vy, pitch := range map[bool]byte{false: 4, true: 3} {
		s.Profile.ShiftVY = vy
		if r := run(t, s)[0]; r.Pitch != pitch {
			t.Errorf("with ShiftVY %v, the pitch is %d, want %d", vy, r.Pitch, pitch)
		}
	}
	s = Script{ROM: code(0x00FD), Profile: chip8, Cycles: 9, Cached: true, Frames: idle(2)}
	fault := api.Status{Kind: api.Faulted, Cause: api.ErrIllegal, PC: 512, Cycle: 0}
	checkStatuses(t, run(t, s), fault, fault)
	s.Profile = schip
	halt := api.Status{Kind: api.Halted, PC: 512, Cycle: 0}
	checkStatuses(t, run(t, s), halt, halt)
}

// P22.1: frames go on after the end of the program, and their timers tick.
func TestRunEnded(t *testing.T) {
	s := Script{ROM: code(0x6003, 0xF018, 0x00EE), Profile: chip8, Cycles: 9, Cached: true, Frames: idle(5)}
	for i, r := range run(t, s) {
		if want := (api.Status{Kind: api.Faulted, Cause: api.ErrReturn, PC: 516, Cycle: 2}); r.Status != want || r.Sound != (i < 3) {
			t.Errorf("frame %d: %+v and Sound %v", i, r.Status, r.Sound)
		}
	}
}

// P22.1: a script without frames has no records, and one with many frames has all of them.
func TestRunFrames(t *testing.T) {
	for _, n := range []int{0, 1, 2, 3, 17, 1000} {
		s := Script{ROM: code(0xF03A, 0x7001, 0x1200), Profile: xochip, Cycles: 3, Cached: true, Frames: idle(n)}
		for i, r := range run(t, s) {
			if r.Pitch != byte(i) {
				t.Errorf("%d frames: the record %d has the pitch %d", n, i, r.Pitch)
			}
		}
	}
	r, e := Run(Script{Profile: chip8, Frames: [][]api.KeyEvent{}})
	if e != api.OK {
		t.Errorf("without a ROM and frames: %v", e)
	}
	checkEmpty(t, r, false)
}

// P22.1: a ROM of 65024 bytes is run, and a longer one is rejected, whatever else the script has.
func TestRunRejected(t *testing.T) {
	rom := append(code(0x00FD), make([]byte, api.MaxROM-1)...)
	for _, x := range []struct {
		len      int
		rejected bool
	}{{api.MaxROM - 1, false}, {api.MaxROM, false}, {api.MaxROM + 1, true}} {
		for _, frames := range []int{0, 1, 3} {
			for _, cycles := range []int{0, 1, api.MaxCycles} {
				for _, cached := range []bool{false, true} {
					s := Script{ROM: rom[:x.len], Profile: schip, Cycles: cycles, Cached: cached, Frames: idle(frames)}
					if !x.rejected {
						run(t, s)
						continue
					}
					r, e := Run(s)
					if e != api.OK {
						t.Errorf("a ROM of %d bytes: %v", x.len, e)
					}
					checkEmpty(t, r, true)
				}
			}
		}
	}
	r, e := Run(Script{ROM: make([]byte, 1<<20), Profile: chip8, Frames: idle(1)})
	if e != api.OK {
		t.Errorf("a ROM of 2^20 bytes: %v", e)
	}
	checkEmpty(t, r, true)
}

// P22.1: invalid profiles and numbers of cycles are errors, with and without frames, and before the ROM is looked at.
func TestRunErrors(t *testing.T) {
	type wrong struct {
		p      api.Profile
		cycles int
	}
	var l []wrong
	for _, level := range []int{math.MinInt, -1, 0, 4, 5, 256 + 1, math.MaxInt} {
		l = append(l, wrong{api.Profile{Level: level}, 10}, wrong{api.Profile{Level: level, Clip: true}, 0}, wrong{api.Profile{Level: level}, -1})
	}
	for _, cycles := range []int{math.MinInt, -65536, -1, 65536, 65537, 131072, math.MaxInt} {
		for n := range profile.Count() {
			p, _ := profile.At(n)
			if n%41 == 0 {
				l = append(l, wrong{p, cycles})
			}
		}
	}
	for _, x := range l {
		for _, size := range []int{0, 2, api.MaxROM + 1} {
			for _, frames := range []int{0, 1, 4} {
				r, e := Run(Script{ROM: make([]byte, size), Profile: x.p, Cycles: x.cycles, Cached: true, Frames: idle(frames)})
				if e != api.ErrArg {
					t.Errorf("%+v, a ROM of %d bytes and %d frames: %v", x, size, frames, e)
				}
				checkEmpty(t, r, false)
			}
		}
	}
	if r, e := Run(Script{}); e != api.ErrArg || r.Rejected || r.Records != nil {
		t.Errorf("the zero script: %v", e)
	}
}

// record returns a record with a kind of status, and with a pitch to tell it from others.
func record(kind int, pitch byte) frame.Record {
	return frame.Record{Pitch: pitch, Status: api.Status{Kind: kind}}
}

// P22.2: the last record, of results with and without records.
func TestLast(t *testing.T) {
	r := Result{}
	for _, r := range []Result{r, {Rejected: true}, {Records: []frame.Record{}}} {
		if got, ok := Last(r); ok || got != (frame.Record{}) {
			t.Errorf("Last = %+v, %v without records", got, ok)
		}
	}
	for n := range byte(9) {
		r.Records = append(r.Records, record(int(n)%4, n))
		if got, ok := Last(r); !ok || got != record(int(n)%4, n) {
			t.Errorf("with %d records, Last = %+v, %v", n+1, got, ok)
		}
	}
	// A zero record is a record.
	if got, ok := Last(Result{Records: []frame.Record{record(api.Halted, 1), {}}}); !ok || got != (frame.Record{}) {
		t.Errorf("Last = %+v, %v", got, ok)
	}
	// What is behind the end of the list is not in it.
	if got, ok := Last(Result{Records: r.Records[:3]}); !ok || got != record(2, 2) {
		t.Errorf("Last = %+v, %v", got, ok)
	}
}

// P22.2: the index of the first record that is halted or faulted, for lists of kinds.
func TestEnd(t *testing.T) {
	for _, x := range []struct {
		kinds []int
		end   int
	}{
		{nil, -1},
		{[]int{0}, -1}, {[]int{1}, -1}, {[]int{2}, 0}, {[]int{3}, 0},
		{[]int{0, 1, 0, 1, 1}, -1},
		{[]int{0, 1, 0, 2}, 3}, {[]int{0, 1, 3, 3}, 2},
		{[]int{1, 2, 3}, 1}, {[]int{1, 3, 2}, 1}, {[]int{2, 0, 0}, 0}, {[]int{3, 0, 0}, 0}, {[]int{0, 2, 0, 3}, 1}, {[]int{0, 3, 1, 2}, 1},
	} {
		var r Result
		for i, kind := range x.kinds {
			r.Records = append(r.Records, record(kind, byte(i)))
		}
		if got := End(r); got != x.end {
			t.Errorf("End of the kinds %v = %d, want %d", x.kinds, got, x.end)
		}
	}
	if got := End(Result{Rejected: true}); got != -1 {
		t.Errorf("End of a rejection = %d", got)
	}
}

// P22.2: the end of programs that halt, fault, wait, and run on.
func TestEndOfRuns(t *testing.T) {
	for last, want := range map[int]int{0x00FD: 2, 0x00EE: 2, 0x0000: 2, 0xF10A: -1, 0x120A: -1} {
		s := Script{ROM: code(0x7001, 0x7001, 0x7001, 0x7001, 0x7001, last), Profile: schip, Cycles: 2, Cached: true, Frames: idle(5)}
		r, e := Run(s)
		if got := End(r); e != api.OK || got != want {
			t.Errorf("%04X: End = %d, %v; want %d", last, got, e, want)
		}
	}
}

// copied returns a script with copies of all lists, up to their capacities.
func copied(s Script) Script {
	s.ROM = slices.Clone(s.ROM[:cap(s.ROM)])
	s.List = slices.Clone(s.List[:cap(s.List)])
	s.Flush = slices.Clone(s.Flush[:cap(s.Flush)])
	s.Frames = slices.Clone(s.Frames[:cap(s.Frames)])
	for i, l := range s.Frames {
		s.Frames[i] = slices.Clone(l[:cap(l)])
	}
	return s
}

// checkSame compares the lists of scripts.
func checkSame(t *testing.T, got, want Script) {
	t.Helper()
	if !slices.Equal(got.ROM, want.ROM) || !slices.Equal(got.List, want.List) || !slices.Equal(got.Flush, want.Flush) {
		t.Errorf("%+v, want %+v", got, want)
	}
	if !slices.EqualFunc(got.Frames, want.Frames, slices.Equal[[]api.KeyEvent]) {
		t.Errorf("the frames are %v, want %v", got.Frames, want.Frames)
	}
}

// P22.4: a script is not changed by its run, nor is what is behind its lists, also if the program writes over the ROM; records do not change with it.
func TestArguments(t *testing.T) {
	rom := append(code(0xA200, 0xC0FF, 0xF133, 0xF01E, 0xFF55, 0x1202), 1, 2, 3)
	events := []api.KeyEvent{press(1), release(1), press(16), press(-1), press(9)}
	s := Script{
		ROM: rom[:12], List: []byte{5, 77, 8, 9}[:2], Profile: xochip, Cycles: 30, Cached: true,
		Flush: []int{9, 3, 3, -1, 70, 8}[:5], Frames: [][]api.KeyEvent{events[:2], events[1:4], nil, {}, events}[:4],
	}
	before := copied(s)
	first := run(t, s)
	second := run(t, s)
	checkSame(t, copied(s), before)
	if !slices.Equal(first, second) {
		t.Error("two runs differ")
	}
	clear(first)
	clear(s.ROM)
	clear(s.List)
	clear(s.Flush)
	clear(events)
	clear(s.Frames)
	before.ROM, before.List, before.Flush, before.Frames = before.ROM[:12], before.List[:2], before.Flush[:5], before.Frames[:4]
	if !slices.Equal(second, run(t, before)) {
		t.Error("the records have changed with the script")
	}
}

// P22.2, P22.4: Last and End do not change the records.
func TestResultStays(t *testing.T) {
	l := []frame.Record{record(0, 1), record(3, 2), record(2, 3), record(1, 4)}
	before := slices.Clone(l)
	r := Result{Records: l[:3]}
	last, _ := Last(r)
	last.Planes[0].Rows[0].High, last.Pattern[0] = 1, 1
	End(r)
	if !slices.Equal(l, before) || len(r.Records) != 3 {
		t.Error("the records have changed")
	}
}

// The function that collects results stops at the first error, and does not call f again.
func TestCollect(t *testing.T) {
	half := func(calls *int) func(n int) (string, api.Errno) {
		return func(n int) (string, api.Errno) {
			*calls++
			if n%2 == 1 {
				return "odd", api.Errno(n)
			}
			return string(rune('a' + n/2)), api.OK
		}
	}
	for _, x := range []struct {
		list  []int
		want  []string
		err   api.Errno
		calls int
	}{
		{nil, nil, api.OK, 0},
		{[]int{0, 2, 4, 2}, []string{"a", "b", "c", "b"}, api.OK, 4},
		{[]int{0, 2, 5, 3, 2}, nil, api.ErrArg, 3},
		{[]int{1}, nil, api.ErrIllegal, 1},
		{[]int{0, 7}, nil, api.ErrROM, 2},
	} {
		calls := 0
		got, e := collect(x.list, half(&calls))
		if !slices.Equal(got, x.want) || e != x.err || calls != x.calls {
			t.Errorf("collect %v = %v, %v in %d calls; want %v, %v in %d", x.list, got, e, calls, x.want, x.err, x.calls)
		}
	}
}

// P22.1: the records are those of an initial machine of layer 20 that is run for each frame by layer 21.
func TestRunIsFrames(t *testing.T) {
	s := Script{ROM: code(0x6402, 0xF418, 0xA200, 0xC0FF, 0xC1FF, 0xD015, 0xF10A, 0x1200), List: []byte{3, 9, 30, 5}, Profile: schip, Cycles: 7, Cached: true, Flush: []int{1, 9}}
	s.Frames = [][]api.KeyEvent{{press(3)}, {release(3)}, nil, {press(9), release(9)}, {press(8)}, {release(8), press(7)}, nil}
	m, e := machine.New(machine.Config{ROM: s.ROM, List: s.List, Profile: s.Profile, Cached: true, Flush: s.Flush})
	if e != api.OK {
		t.Fatal(e)
	}
	for i, r := range run(t, s) {
		if want, _ := frame.Run(m, s.Frames[i], s.Cycles); r != want {
			t.Errorf("frame %d: %+v, want %+v", i, r, want)
		}
	}
}
