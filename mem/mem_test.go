package mem

import (
	"bytes"
	"math"
	"slices"
	"testing"

	"cosmac/api"
	"cosmac/font"
)

const size = 65536

// addresses at the edges of the memory and of its parts, and numbers that are wrapped to such addresses.
var addresses = []int{
	0, 1, 2, 79, 80, 159, 160, 511, 512, 513, 32767, 32768, 65532, 65533, 65534, 65535,
	65536, 65537, 65538, 131070, 131071, 131072, 1 << 31, 1<<40 - 1, math.MaxInt - 1, math.MaxInt,
	-1, -2, -3, -65535, -65536, -65537, -131072, math.MinInt, math.MinInt + 1,
}

// lengths of spans: the shortest ones, half the memory, and almost or exactly all of it.
var lengths = []int{0, 1, 2, 3, 4, 16, 32768, 65534, 65535, 65536}

// model is a memory that is written byte by byte, made without the functions of the package.
type model struct {
	bytes [size]byte
	log   []Range
}

// wrap returns an address, as the chapter of the addresses defines it.
func wrap(a int) int { return (a%size + size) % size }

// write replaces bytes of the model.
func (k *model) write(a int, b []byte) {
	at := wrap(a)
	for i, v := range b {
		k.bytes[(at+i)%size] = v
	}
	if len(b) > 0 {
		k.log = append(k.log, Range{at, len(b)})
	}
}

// span returns bytes of the model.
func (k *model) span(a, n int) []byte {
	at := wrap(a)
	var list []byte
	for i := range n {
		list = append(list, k.bytes[(at+i)%size])
	}
	return list
}

// check compares all bytes and the log of a memory with the model's, and empties both logs.
func (k *model) check(t *testing.T, m *Memory, what string) {
	t.Helper()
	k.checkBytes(t, m, what)
	if got := m.Dirty(); !slices.Equal(got, k.log) {
		t.Errorf("%s: the log is %v, want %v", what, got, k.log)
	}
	k.log = nil
}

// checkBytes compares all bytes of a memory with the model's.
func (k *model) checkBytes(t *testing.T, m *Memory, what string) {
	t.Helper()
	for a, want := range k.bytes {
		if got := m.Read(a); got != want {
			t.Fatalf("%s: the byte at %d is %d, want %d", what, a, got, want)
		}
	}
}

// pattern returns n bytes that are not zero, and that differ from their neighbours and from other seeds.
func pattern(n, seed int) []byte {
	list := make([]byte, n)
	for i := range list {
		list[i] = byte(1 + (i*7+i/255*3+seed*31)%255)
	}
	return list
}

// newModel returns the model of the initial memory for a ROM.
func newModel(rom []byte) *model {
	k := new(model)
	for i, v := range font.Small() {
		k.bytes[80+i] = v
	}
	for i, v := range font.Big() {
		k.bytes[160+i] = v
	}
	for i, v := range rom {
		k.bytes[512+i] = v
	}
	return k
}

// made returns the initial memory for a ROM of n bytes, and its model.
func made(t *testing.T, n int) (*Memory, *model) {
	t.Helper()
	rom := pattern(n, 0)
	m, err := New(rom)
	if m == nil || err != api.OK {
		t.Fatalf("New of %d bytes: %v, %d", n, m != nil, err)
	}
	return m, newModel(rom)
}

// P5.1
func TestNewInitialMemory(t *testing.T) {
	for _, n := range []int{0, 1, 2, 3, 3584, 65022, 65023, 65024} {
		m, k := made(t, n)
		k.check(t, m, "the initial memory")
	}
}

// P5.1
func TestNewEmptyROM(t *testing.T) {
	for _, rom := range [][]byte{nil, {}} {
		m, err := New(rom)
		if m == nil || err != api.OK {
			t.Fatalf("New of an empty ROM: %v, %d", m != nil, err)
		}
		newModel(nil).check(t, m, "the initial memory")
	}
}

// P5.1: bytes of the fonts, as the chapter of the fonts lists them, and the zero bytes around them.
func TestNewPlacesFonts(t *testing.T) {
	m, _ := made(t, 65024)
	for _, x := range []struct {
		at   int
		want []byte
	}{
		{78, []byte{0, 0, 0xF0, 0x90, 0x90, 0x90, 0xF0, 0x20}},
		{155, []byte{0xF0, 0x80, 0xF0, 0x80, 0x80, 0x3C, 0x7E, 0xE7}},
		{310, []byte{0xFF, 0xFF, 0xC0, 0xC0, 0xFF, 0xFF, 0xC0, 0xC0, 0xC0, 0xC0, 0, 0}},
	} {
		if got := m.Bytes(x.at, len(x.want)); !bytes.Equal(got, x.want) {
			t.Errorf("the bytes at %d are % X, want % X", x.at, got, x.want)
		}
	}
}

// P5.1
func TestNewROMTooLong(t *testing.T) {
	for _, n := range []int{65025, 65026, 65535, 65536, 65537, 1 << 20} {
		if m, err := New(make([]byte, n)); m != nil || err != 7 {
			t.Errorf("New of %d bytes: %v, %d, want nil, 7", n, m != nil, err)
		}
	}
}

// P5.1: the ROM of the greatest length fills the memory to its end, and not its start.
func TestNewLongestROM(t *testing.T) {
	m, err := New(bytes.Repeat([]byte{7}, 65024))
	if m == nil || err != api.OK {
		t.Fatalf("New of 65024 bytes: %v, %d", m != nil, err)
	}
	if got, want := m.Bytes(65534, 4), []byte{7, 7, 0, 0}; !bytes.Equal(got, want) {
		t.Errorf("the bytes at the end and the start are %v, want %v", got, want)
	}
	if got, want := m.Bytes(510, 4), []byte{0, 0, 7, 7}; !bytes.Equal(got, want) {
		t.Errorf("the bytes around the start of the ROM are %v, want %v", got, want)
	}
}

// P5.2
func TestReadAllAddresses(t *testing.T) {
	m := new(Memory)
	k := new(model)
	all := pattern(size, 5)
	m.Write(0, all)
	k.write(0, all)
	for a := -2 * size; a <= 3*size; a++ {
		if got, want := m.Read(a), k.bytes[wrap(a)]; got != want {
			t.Fatalf("Read(%d) = %d, want %d", a, got, want)
		}
	}
	for _, a := range addresses {
		if got, want := m.Read(a), k.bytes[wrap(a)]; got != want {
			t.Errorf("Read(%d) = %d, want %d", a, got, want)
		}
	}
}

// P5.2
func TestBytesOfSpans(t *testing.T) {
	m := new(Memory)
	k := new(model)
	all := pattern(size, 6)
	m.Write(0, all)
	k.write(0, all)
	for _, a := range addresses {
		// With rest bytes, the span ends at the end of the memory.
		rest := size - wrap(a)
		for _, n := range append([]int{rest - 1, rest, rest + 1}, lengths...) {
			if n > size {
				continue
			}
			if got, want := m.Bytes(a, n), k.span(a, n); !bytes.Equal(got, want) {
				t.Errorf("Bytes(%d, %d) has %d bytes, % X.., want %d, % X..", a, n, len(got), got[:min(8, len(got))], n, want[:min(8, n)])
			}
		}
	}
}

// P5.2: reading writes nothing.
func TestReadingLeavesMemory(t *testing.T) {
	m, k := made(t, 100)
	m.Write(7, []byte{1, 2})
	k.write(7, []byte{1, 2})
	for _, a := range addresses {
		m.Read(a)
		m.Bytes(a, 16)
	}
	k.check(t, m, "after reading")
}

// P5.3
func TestWriteSpans(t *testing.T) {
	for _, a := range addresses {
		rest := size - wrap(a)
		for i, n := range append([]int{rest - 1, rest, rest + 1}, lengths...) {
			if n > size {
				continue
			}
			m, k := made(t, 1000)
			b := pattern(n, i+1)
			m.Write(a, b)
			k.write(a, b)
			k.check(t, m, "after a write")
		}
	}
}

// P5.3: the log has all spans in the order of the writes, also those that overlap, that repeat, and that change no byte.
func TestWriteSequence(t *testing.T) {
	m, k := made(t, 2000)
	for i, x := range []struct{ a, n int }{
		{600, 1}, {601, 1}, {599, 4}, {600, 1}, {600, 1}, {65535, 3}, {-1, 3}, {65536 + 600, 2}, {80, 80}, {700, 0},
		{5, 65536}, {0, 1}, {65535, 65536}, {-65536, 0}, {-65537, 2}, {131071, 1}, {512, 65024}, {3, 16},
	} {
		b := pattern(x.n, i+1)
		m.Write(x.a, b)
		k.write(x.a, b)
		k.checkBytes(t, m, "after a write")
	}
	same := m.Bytes(65530, 12)
	m.Write(65530, same)
	k.write(65530, same)
	if len(k.log) != 17 {
		t.Fatalf("the model's log has %d spans", len(k.log))
	}
	k.check(t, m, "after all writes")
}

// P5.3
func TestWriteNothing(t *testing.T) {
	m, k := made(t, 50)
	for _, a := range addresses {
		m.Write(a, nil)
		m.Write(a, []byte{})
		m.Write(a, pattern(3, 1)[:0])
	}
	k.check(t, m, "after empty writes")
}

// P5.3, P5.4: the chapter's example.
func TestExample(t *testing.T) {
	m, _ := made(t, 0)
	m.Write(65535, []byte{11, 12, 13})
	if got, want := m.Dirty(), []Range{{At: 65535, Len: 3}}; !slices.Equal(got, want) {
		t.Errorf("the log is %v, want %v", got, want)
	}
	if m.Read(65535) != 11 || m.Read(0) != 12 || m.Read(1) != 13 {
		t.Errorf("the bytes are %v, want 11, 12, 13", m.Bytes(65535, 3))
	}
}

// P5.4
func TestDirtyEmptiesLog(t *testing.T) {
	m, k := made(t, 10)
	if got := m.Dirty(); len(got) != 0 {
		t.Errorf("the initial log is %v", got)
	}
	m.Write(1, []byte{1})
	m.Write(2, []byte{2, 3})
	k.write(1, []byte{1})
	k.write(2, []byte{2, 3})
	if got, want := m.Dirty(), []Range{{1, 1}, {2, 2}}; !slices.Equal(got, want) {
		t.Errorf("the log is %v, want %v", got, want)
	}
	for range 2 {
		if got := m.Dirty(); len(got) != 0 {
			t.Errorf("the log that was emptied is %v", got)
		}
	}
	m.Write(-1, []byte{4})
	k.write(-1, []byte{4})
	if got, want := m.Dirty(), []Range{{65535, 1}}; !slices.Equal(got, want) {
		t.Errorf("the log is %v, want %v", got, want)
	}
	k.checkBytes(t, m, "after the log was emptied")
}

// P5.5
func TestCloneHasBytesAndNoLog(t *testing.T) {
	m, k := made(t, 65024)
	m.Write(65533, []byte{1, 2, 3, 4, 5})
	k.write(65533, []byte{1, 2, 3, 4, 5})
	c := m.Clone()
	k.checkBytes(t, c, "the clone")
	if got := c.Dirty(); len(got) != 0 {
		t.Errorf("the log of the clone is %v", got)
	}
	k.check(t, m, "the memory that was cloned")
}

// P5.5
func TestCloneIsIndependent(t *testing.T) {
	m, k := made(t, 300)
	// Several spans leave room in the log's list, which a clone must not fill.
	for a := range 5 {
		m.Write(a, []byte{9})
		k.write(a, []byte{9})
	}
	c := m.Clone()
	d := c.Clone()
	ofC := &model{bytes: k.bytes}
	ofD := &model{bytes: k.bytes}
	for i := range 3 {
		for j, x := range []struct {
			m *Memory
			k *model
		}{{m, k}, {c, ofC}, {d, ofD}} {
			a, b := 600+2*i+j, pattern(3+j, 10*i+j+1)
			x.m.Write(a, b)
			x.k.write(a, b)
		}
	}
	ofC.check(t, c, "the clone")
	k.check(t, m, "the memory that was cloned")
	ofD.check(t, d, "the clone of the clone")
}

// P5.6: two memories for one ROM share nothing.
func TestMemoriesAreIndependent(t *testing.T) {
	rom := pattern(20, 0)
	m, _ := New(rom)
	n, _ := New(rom)
	m.Write(0, pattern(size, 1))
	newModel(rom).check(t, n, "the other memory")
	var first, second Memory
	first.Write(0, pattern(size, 1))
	new(model).check(t, &second, "the other zero memory")
}

// P5.6: arguments keep their bytes, also those of their unused capacity, and later changes of them change no memory.
func TestArgumentsAreNotKept(t *testing.T) {
	rom := pattern(40, 0)
	want := bytes.Clone(rom)
	m, err := New(rom[:30])
	if err != api.OK || !bytes.Equal(rom, want) {
		t.Fatalf("New changes its argument to %v, %d", rom, err)
	}
	clear(rom)
	k := newModel(want[:30])
	k.check(t, m, "after a change of the ROM")

	b := pattern(40, 3)
	want = bytes.Clone(b)
	for _, a := range []int{600, 65530} {
		m.Write(a, b[:30])
		k.write(a, want[:30])
		if !bytes.Equal(b, want) {
			t.Errorf("Write changes its argument to %v", b)
		}
		clear(b)
		k.check(t, m, "after a change of the bytes that were written")
		copy(b, want)
	}
	m.Write(600, pattern(30, 8))
	if !bytes.Equal(b, want) {
		t.Errorf("a later Write changes an argument of an earlier one to %v", b)
	}
}

// P5.6: what the caller does with a result, also with its unused capacity, changes no memory and no other result.
func TestBytesAreNew(t *testing.T) {
	m, k := made(t, 65024)
	for _, x := range []struct{ a, n int }{{600, 4}, {600, 0}, {65534, 5}, {65532, 4}, {0, 65536}, {9, 65536}} {
		want := k.span(x.a, x.n)
		earlier := m.Bytes(x.a, x.n)
		list := m.Bytes(x.a, x.n)
		list = list[:cap(list)]
		for i := range list {
			list[i] ^= 0x5A
		}
		if !bytes.Equal(earlier, want) {
			t.Errorf("an earlier Bytes(%d, %d) changes with a later one", x.a, x.n)
		}
		k.check(t, m, "after a change of a result")
		m.Write(x.a, make([]byte, x.n))
		if !bytes.Equal(earlier, want) {
			t.Errorf("Bytes(%d, %d) changes with the memory", x.a, x.n)
		}
		m.Write(x.a, want)
		m.Dirty()
	}
}

// P5.6: a log that was returned belongs to the caller, and is not used for later spans.
func TestLogsAreNew(t *testing.T) {
	m, k := made(t, 10)
	for a := range 5 {
		m.Write(a, []byte{1})
	}
	first := m.Dirty()
	want := []Range{{0, 1}, {1, 1}, {2, 1}, {3, 1}, {4, 1}}
	whole := first[:cap(first)]
	rest := slices.Clone(whole[len(first):])
	for a := range 7 {
		m.Write(100+a, []byte{2, 2})
	}
	if !slices.Equal(first, want) || !slices.Equal(whole[len(first):], rest) {
		t.Errorf("later writes change an earlier log to %v", whole)
	}
	for i := range whole {
		whole[i] = Range{-1, -1}
	}
	for a := range 5 {
		k.write(a, []byte{1})
	}
	k.log = nil
	for a := range 7 {
		k.write(100+a, []byte{2, 2})
	}
	k.check(t, m, "after a change of an earlier log")
}

// The chapter's promises for a nil Memory.
func TestNilMemory(t *testing.T) {
	var m *Memory
	for _, a := range addresses {
		m.Write(a, []byte{1, 2})
		if got := m.Read(a); got != 0 {
			t.Errorf("Read(%d) = %d", a, got)
		}
		for _, n := range lengths {
			if got := m.Bytes(a, n); len(got) != 0 {
				t.Errorf("Bytes(%d, %d) has %d bytes", a, n, len(got))
			}
		}
	}
	m.Write(0, nil)
	if got := m.Dirty(); len(got) != 0 {
		t.Errorf("the log is %v", got)
	}
	if m.Clone() != nil {
		t.Error("the clone is not nil")
	}
}

// The chapter's definition of the zero Memory.
func TestZeroMemory(t *testing.T) {
	var m Memory
	k := new(model)
	k.check(t, &m, "the zero memory")
	if got := m.Bytes(0, size); !bytes.Equal(got, make([]byte, size)) {
		t.Error("the zero memory has bytes that are not zero")
	}
	c := m.Clone()
	m.Write(65535, []byte{1, 2})
	if c == nil {
		t.Fatal("the clone of the zero memory is nil")
	}
	k.check(t, c, "the clone of the zero memory")
	k.write(65535, []byte{1, 2})
	k.check(t, &m, "the zero memory after a write")
}

// The language's rules: no argument makes a method panic or run on; the results are unspecified.
func TestOtherArgumentsEnd(t *testing.T) {
	m, _ := made(t, 3)
	for _, a := range addresses {
		for _, n := range []int{math.MinInt, -65537, -1, 65537, 1 << 31, math.MaxInt} {
			m.Bytes(a, n)
		}
		for _, n := range []int{65537, 131072, 200000} {
			m.Write(a, make([]byte, n))
		}
	}
	m.Clone()
	m.Dirty()
}
