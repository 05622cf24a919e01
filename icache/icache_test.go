package icache

import (
	"math"
	"slices"
	"testing"

	"cosmac/addr"
	"cosmac/api"
	"cosmac/decode"
	"cosmac/mem"
)

const size = 65536

// addresses at the edges of the memory and of parts of it, and numbers that are wrapped to such addresses.
var addresses = []int{
	0, 1, 2, 3, 4, 63, 64, 255, 256, 257, 511, 512, 513, 1023, 1024, 4095, 4096, 32767, 32768, 65279, 65280, 65531, 65532, 65533, 65534, 65535,
	65536, 65537, 131071, 131072, 1 << 31, 1<<40 - 1, math.MaxInt - 1, math.MaxInt,
	-1, -2, -3, -4, -65535, -65536, -65537, math.MinInt, math.MinInt + 1,
}

// levels are all levels, and numbers that are none.
var levels = []int{1, 2, 3, 0, -1, 4, 257, 1<<32 + 1, math.MinInt, math.MaxInt}

// lengths of spans: empty ones, those about as long as that of an entry, and almost or exactly the whole memory.
var lengths = []int{0, 1, 2, 3, 4, 5, 255, 256, 257, 1000, 32768, 65531, 65532, 65533, 65534, 65535, 65536}

// wrap returns an address, as the chapter of the addresses defines it.
func wrap(a int) int { return (a%size + size) % size }

// numbers is a stream of numbers that only looks random.
type numbers struct{ last uint64 }

// below returns the next number, which is less than n.
func (s *numbers) below(n int) int {
	s.last = s.last*6364136223846793005 + 1442695040888963407
	return int(s.last>>33) % n
}

// mixed returns a memory in which all kinds of instructions occur, with an empty log.
func mixed(seed uint64) *mem.Memory {
	s := numbers{seed}
	b := make([]byte, size)
	for i := range b {
		b[i] = byte(s.below(256))
	}
	// Instructions that few bytes are decoded to.
	rare := [][]byte{{0x00, 0xE0}, {0x00, 0xEE}, {0x00, 0xFD}, {0xF0, 0x00, 0x12, 0x34}, {0xF0, 0x02}, {0xF3, 0x01}, {0xF8, 0x75}, {0x00, 0x00}, {0x00, 0xD4}}
	for range 5000 {
		copy(b[s.below(size):], rare[s.below(len(rare))])
	}
	m := new(mem.Memory)
	m.Write(0, b)
	m.Dirty()
	return m
}

// decoded returns what the bytes at an address are decoded to, without a cache.
func decoded(m *mem.Memory, a, level int) api.Instr {
	return decode.Decode([4]byte{m.Read(a), m.Read(a + 1), m.Read(a + 2), m.Read(a + 3)}, level)
}

// model is a cache whose entries are looked through one by one.
type model struct {
	level, hits, misses int
	enabled             bool
	entries             map[int]api.Instr
}

// newModel returns the model of a new cache.
func newModel(level int, enabled bool) *model {
	return &model{level: level, enabled: enabled, entries: map[int]api.Instr{}}
}

// get does what Get is to do.
func (k *model) get(m *mem.Memory, a int) api.Instr {
	if in, found := k.entries[wrap(a)]; found {
		k.hits++
		return in
	}
	k.misses++
	in := decoded(m, a, k.level)
	if k.enabled {
		k.entries[wrap(a)] = in
	}
	return in
}

// invalidate does what Invalidate is to do.
func (k *model) invalidate(l []mem.Range) {
	for _, r := range l {
		for a := range k.entries {
			if addr.Overlap(a, 4, r.At, r.Len) {
				delete(k.entries, a)
			}
		}
	}
}

// checkCounts compares the counts of a cache with the model's.
func (k *model) checkCounts(t *testing.T, c *Cache, what string) {
	t.Helper()
	if c.Valid() != len(k.entries) || c.Hits() != k.hits || c.Misses() != k.misses {
		t.Fatalf("%s: Valid, Hits and Misses are %d, %d, %d, want %d, %d, %d", what, c.Valid(), c.Hits(), c.Misses(), len(k.entries), k.hits, k.misses)
	}
}

// check compares all entries and the counts of a cache with the model's.
func (k *model) check(t *testing.T, c *Cache, what string) {
	t.Helper()
	for a := range size {
		in, found := c.Peek(a)
		want, valid := k.entries[a]
		if in != want || found != valid {
			t.Fatalf("%s: Peek(%d) = %v, %v, want %v, %v", what, a, in, found, want, valid)
		}
	}
	k.checkCounts(t, c, what)
}

// get compares a result of Get with the model's.
func get(t *testing.T, c *Cache, k *model, m *mem.Memory, a int) {
	t.Helper()
	if in, want := c.Get(m, a), k.get(m, a); in != want {
		t.Fatalf("level %d, enabled %v: Get(%d) = %v, want %v", k.level, k.enabled, a, in, want)
	}
}

// fill makes the entries at all addresses valid.
func fill(c *Cache, m *mem.Memory) {
	for a := range size {
		c.Get(m, a)
	}
}

// P16.1
func TestNewHasNoEntries(t *testing.T) {
	for _, level := range levels {
		for _, enabled := range []bool{true, false} {
			c := New(level, enabled)
			if c == nil {
				t.Fatalf("New(%d, %v) is nil", level, enabled)
			}
			newModel(level, enabled).check(t, c, "a new cache")
		}
	}
}

// P16.1: caches are independent of each other.
func TestNewIsIndependent(t *testing.T) {
	m := mixed(1)
	c, d := New(api.Chip8, true), New(api.Chip8, true)
	c.Get(m, 512)
	c.Get(m, 512)
	newModel(api.Chip8, true).check(t, d, "the other cache")
	d.Get(m, 512)
	d.Flush()
	if _, found := c.Peek(512); !found || c.Valid() != 1 || c.Hits() != 1 || c.Misses() != 1 {
		t.Errorf("after a flush of the other cache: %v, %d, %d, %d", found, c.Valid(), c.Hits(), c.Misses())
	}
}

// P16.2: Get decodes for the level of the cache, whether it is enabled or not.
func TestGetDecodes(t *testing.T) {
	m := mixed(2)
	for _, level := range levels {
		for _, enabled := range []bool{true, false} {
			c := New(level, enabled)
			for a := range size {
				if in, want := c.Get(m, a), decoded(m, a, level); in != want {
					t.Fatalf("level %d, enabled %v: Get(%d) = %v, want %v", level, enabled, a, in, want)
				}
			}
		}
	}
}

// P16.2: the third and the fourth byte count too, also if they are at the start of the memory.
func TestGetFourBytes(t *testing.T) {
	m := new(mem.Memory)
	for _, a := range []int{0, 253, 254, 255, 256, 512, 65532, 65533, 65534, 65535} {
		m.Write(a, []byte{0xF0, 0x00, 0x12, 0x34})
		want := api.Instr{Op: api.LongI, Addr: 0x1234, Len: 4}
		c := New(api.XOChip, true)
		if in := c.Get(m, a); in != want {
			t.Errorf("Get(%d) = %v, want %v", a, in, want)
		}
		if in, found := c.Peek(a); in != want || !found {
			t.Errorf("Peek(%d) = %v, %v, want %v, true", a, in, found, want)
		}
		m.Write(a, make([]byte, 4))
	}
}

// P16.2, P16.3: the entry stays what it was while it is valid, whatever the memory has.
func TestGetReturnsEntry(t *testing.T) {
	first, second := mixed(3), mixed(4)
	c := New(api.XOChip, true)
	fill(c, first)
	for a := range size {
		want := decoded(first, a, api.XOChip)
		if in := c.Get(second, a); in != want {
			t.Fatalf("Get(%d) = %v, want the entry %v", a, in, want)
		}
		if in, found := c.Peek(a); in != want || !found {
			t.Fatalf("Peek(%d) = %v, %v, want the entry %v", a, in, found, want)
		}
	}
}

// P16.2: a cache that is not enabled decodes anew each time.
func TestGetNotEnabled(t *testing.T) {
	for _, level := range levels {
		c, k := New(level, false), newModel(level, false)
		for seed := range uint64(3) {
			m := mixed(seed)
			for a := 500; a < 1000; a++ {
				get(t, c, k, m, a)
				get(t, c, k, m, a)
			}
		}
		k.check(t, c, "not enabled")
		c.Invalidate([]mem.Range{{At: 0, Len: size}})
		c.Flush()
		k.check(t, c, "not enabled, after a flush")
	}
}

// P16.2, P16.3: addresses are wrapped.
func TestAddressesAreWrapped(t *testing.T) {
	m := mixed(5)
	for _, a := range addresses {
		for _, b := range []int{wrap(a), wrap(a) + size, wrap(a) - size, wrap(a) + 1<<30, wrap(a) - 1<<30} {
			c, k := New(api.XOChip, true), newModel(api.XOChip, true)
			get(t, c, k, m, a)
			get(t, c, k, m, b)
			want := decoded(m, wrap(a), api.XOChip)
			for _, at := range []int{a, b} {
				if in, found := c.Peek(at); in != want || !found {
					t.Errorf("after Get(%d): Peek(%d) = %v, %v, want %v, true", a, at, in, found, want)
				}
			}
			if c.Valid() != 1 || c.Hits() != 1 || c.Misses() != 1 {
				t.Errorf("after Get(%d) and Get(%d): %d, %d, %d, want 1, 1, 1", a, b, c.Valid(), c.Hits(), c.Misses())
			}
		}
	}
}

// P16.2, P16.3: Get makes one entry valid, and no other one; an entry for an illegal instruction is as valid as others.
func TestGetMakesOneEntry(t *testing.T) {
	for _, m := range []*mem.Memory{mixed(6), new(mem.Memory)} {
		for _, a := range addresses {
			c, k := New(api.Chip8, true), newModel(api.Chip8, true)
			get(t, c, k, m, a)
			k.check(t, c, "after one Get")
			get(t, c, k, m, a)
			k.check(t, c, "after two of them")
		}
	}
}

// P16.2: Get changes neither the bytes nor the log of the memory.
func TestGetKeepsMemory(t *testing.T) {
	m := mixed(7)
	before := m.Bytes(0, size)
	m.Write(600, before[600:604])
	c := New(api.XOChip, true)
	for _, a := range addresses {
		c.Get(m, a)
	}
	if !slices.Equal(m.Bytes(0, size), before) {
		t.Error("bytes of the memory were changed")
	}
	if got, want := m.Dirty(), []mem.Range{{At: 600, Len: 4}}; !slices.Equal(got, want) {
		t.Errorf("the log is %v, want %v", got, want)
	}
}

// P16.3: Peek neither decodes nor counts.
func TestPeekChangesNothing(t *testing.T) {
	c, k := New(api.XOChip, true), newModel(api.XOChip, true)
	m := mixed(8)
	get(t, c, k, m, 700)
	for range 3 {
		for _, a := range append([]int{700, 701, 699}, addresses...) {
			in, found := c.Peek(a)
			want, valid := k.entries[wrap(a)]
			if in != want || found != valid {
				t.Fatalf("Peek(%d) = %v, %v, want %v, %v", a, in, found, want, valid)
			}
		}
	}
	k.check(t, c, "after Peek")
}

// P16.4: for all entries, Invalidate decides by the addresses that a span has in common with that of the entry.
func TestInvalidateSpans(t *testing.T) {
	m := mixed(9)
	c := New(api.XOChip, true)
	for _, at := range []int{0, 1, 2, 3, 4, 253, 254, 255, 256, 512, 32768, 65278, 65280, 65531, 65532, 65533, 65534, 65535} {
		for _, n := range lengths {
			fill(c, m)
			c.Invalidate([]mem.Range{{At: at, Len: n}})
			valid := 0
			for a := range size {
				want := !addr.Overlap(a, 4, at, n)
				if _, found := c.Peek(a); found != want {
					t.Fatalf("span of %d bytes at %d: the entry at %d is valid: %v, want %v", n, at, a, found, want)
				}
				if want {
					valid++
				}
			}
			if c.Valid() != valid {
				t.Fatalf("span of %d bytes at %d: Valid() = %d, want %d", n, at, c.Valid(), valid)
			}
		}
	}
}

// P16.4: written-out entries and spans, among them the chapter's example.
func TestInvalidateExamples(t *testing.T) {
	for _, x := range []struct {
		entry int
		r     mem.Range
		valid bool
	}{
		{512, mem.Range{At: 515, Len: 1}, false},
		{512, mem.Range{At: 516, Len: 1}, true},
		{512, mem.Range{At: 511, Len: 1}, true},
		{512, mem.Range{At: 511, Len: 2}, false},
		{512, mem.Range{At: 513, Len: 0}, true},
		{512, mem.Range{At: 516, Len: 65532}, true},
		{512, mem.Range{At: 516, Len: 65533}, false},
		{512, mem.Range{At: 515, Len: 65533}, false},
		{65535, mem.Range{At: 2, Len: 1}, false},
		{65535, mem.Range{At: 3, Len: 1}, true},
		{65533, mem.Range{At: 0, Len: 1}, false},
		{65532, mem.Range{At: 0, Len: 1}, true},
		{0, mem.Range{At: 65535, Len: 1}, true},
		{0, mem.Range{At: 65535, Len: 2}, false},
		{256, mem.Range{At: 255, Len: 1}, true},
		{253, mem.Range{At: 256, Len: 1}, false},
		{252, mem.Range{At: 256, Len: 1}, true},
		{40000, mem.Range{At: 0, Len: 65536}, false},
		{40000, mem.Range{At: 40002, Len: 65536}, false},
	} {
		c := New(api.SuperChip, true)
		c.Get(mixed(10), x.entry)
		c.Invalidate([]mem.Range{x.r})
		want := 0
		if x.valid {
			want = 1
		}
		if _, found := c.Peek(x.entry); found != x.valid || c.Valid() != want {
			t.Errorf("the entry at %d after %v: %v, %d valid, want %v", x.entry, x.r, found, c.Valid(), x.valid)
		}
	}
}

// P16.4: all spans of the list count, also overlapping and repeated ones; no spans change nothing.
func TestInvalidateLists(t *testing.T) {
	m := mixed(11)
	for _, l := range [][]mem.Range{
		nil, {}, {{}}, {{At: 700, Len: 0}, {At: 65535, Len: 0}},
		{{At: 700, Len: 1}, {At: 65535, Len: 2}},
		{{At: 700, Len: 0}, {At: 800, Len: 1}},
		{{At: 700, Len: 10}, {At: 705, Len: 10}, {At: 700, Len: 10}},
		{{At: 0, Len: size}, {At: 0, Len: size}},
	} {
		c, k := New(api.XOChip, true), newModel(api.XOChip, true)
		for a := range 2000 {
			get(t, c, k, m, a-1000)
		}
		given := slices.Clone(l)
		c.Invalidate(l)
		k.invalidate(l)
		k.check(t, c, "after Invalidate")
		if !slices.Equal(l, given) {
			t.Errorf("the argument %v was changed to %v", given, l)
		}
	}
}

// P16.4: a cache without entries stays without entries.
func TestInvalidateEmptyCache(t *testing.T) {
	for _, enabled := range []bool{true, false} {
		c := New(api.XOChip, enabled)
		c.Invalidate([]mem.Range{{At: 0, Len: size}, {At: 512, Len: 2}})
		c.Flush()
		newModel(api.XOChip, enabled).check(t, c, "without entries")
	}
}

// P16.4, P16.5: a flush makes all entries invalid, and keeps the counts of Get.
func TestFlush(t *testing.T) {
	m := mixed(12)
	c, k := New(api.XOChip, true), newModel(api.XOChip, true)
	for range 3 {
		for a := range size {
			get(t, c, k, m, a)
		}
		get(t, c, k, m, 512)
		k.checkCounts(t, c, "with all entries")
		c.Flush()
		clear(k.entries)
		k.check(t, c, "after a flush")
	}
	if c.Misses() != 3*size || c.Hits() != 3 {
		t.Errorf("Misses and Hits are %d, %d, want %d, 3", c.Misses(), c.Hits(), 3*size)
	}
}

// P16.2, P16.4: an entry that became invalid is decoded anew.
func TestGetAfterInvalid(t *testing.T) {
	m := new(mem.Memory)
	c := New(api.Chip8, true)
	m.Write(512, []byte{0x00, 0xE0})
	c.Get(m, 512)
	m.Write(513, []byte{0xEE})
	c.Invalidate(m.Dirty())
	if in, want := c.Get(m, 512), (api.Instr{Op: api.Return, Len: 2}); in != want {
		t.Errorf("after Invalidate: %v, want %v", in, want)
	}
	m.Write(512, []byte{0x12, 0x34})
	c.Flush()
	if in, want := c.Get(m, 512), (api.Instr{Op: api.Jump, Addr: 0x234, Len: 2}); in != want {
		t.Errorf("after Flush: %v, want %v", in, want)
	}
	if c.Hits() != 0 || c.Misses() != 3 || c.Valid() != 1 {
		t.Errorf("Hits, Misses and Valid are %d, %d, %d, want 0, 3, 1", c.Hits(), c.Misses(), c.Valid())
	}
}

// P16.2 to P16.5: all methods in many orders, with logs that are reported late or never, compared with the model.
func TestManyOrders(t *testing.T) {
	for _, enabled := range []bool{true, false} {
		for seed := range 6 {
			s := numbers{uint64(seed)}
			m := mixed(uint64(seed))
			level := levels[seed]
			c, k := New(level, enabled), newModel(level, enabled)
			for range 4000 {
				// Addresses around the end of the memory, and around an edge within it.
				a := s.below(600) - 300 + s.below(2)*512
				switch s.below(10) {
				case 0:
					m.Write(a, make([]byte, s.below(6)))
				case 1:
					l := m.Dirty()
					c.Invalidate(l)
					k.invalidate(l)
				case 2:
					l := []mem.Range{{At: wrap(a), Len: s.below(8)}}
					c.Invalidate(l)
					k.invalidate(l)
				case 3:
					if s.below(40) == 0 {
						c.Flush()
						clear(k.entries)
					}
				default:
					get(t, c, k, m, a)
				}
				k.checkCounts(t, c, "in between")
			}
			k.check(t, c, "at the end")
		}
	}
}

// P16.6: with the logs of all writes, each valid entry is what its bytes are decoded to.
func TestEntriesFollowMemory(t *testing.T) {
	for seed := range 4 {
		s := numbers{uint64(100 + seed)}
		m := mixed(uint64(seed))
		level := levels[seed]
		c := New(level, true)
		fill(c, m)
		for range 30 {
			for range s.below(4) {
				b := make([]byte, []int{0, 1, 1, 2, 3, 16, 300, 65535, 65536}[s.below(9)])
				for i := range b {
					b[i] = byte(s.below(256))
				}
				m.Write(s.below(3*size)-size, b)
			}
			c.Invalidate(m.Dirty())
			for range 2000 {
				a := s.below(size)
				if in, want := c.Get(m, a), decoded(m, a, level); in != want {
					t.Fatalf("level %d: Get(%d) = %v, want %v", level, a, in, want)
				}
			}
			checkEntries(t, c, m, level)
		}
	}
}

// checkEntries compares each valid entry with what its bytes are decoded to.
func checkEntries(t *testing.T, c *Cache, m *mem.Memory, level int) {
	t.Helper()
	valid := 0
	for a := range size {
		in, found := c.Peek(a)
		if !found {
			continue
		}
		valid++
		if want := decoded(m, a, level); in != want {
			t.Fatalf("level %d: the entry at %d is %v, want %v", level, a, in, want)
		}
	}
	if c.Valid() != valid {
		t.Fatalf("Valid() = %d, want %d", c.Valid(), valid)
	}
}

// P16.1 to P16.5: a nil Cache decodes for the level 0, and does nothing else.
func TestNilCache(t *testing.T) {
	var c *Cache
	m := mixed(13)
	m.Write(512, []byte{0xF0, 0x00, 0x12, 0x34})
	for range 2 {
		for _, a := range append([]int{514}, addresses...) {
			if in, want := c.Get(m, a), (api.Instr{Op: api.Illegal, Len: 2}); in != want {
				t.Errorf("Get(%d) = %v, want %v", a, in, want)
			}
			if in, found := c.Peek(a); in != (api.Instr{}) || found {
				t.Errorf("Peek(%d) = %v, %v, want a zero Instr and false", a, in, found)
			}
		}
		c.Invalidate(nil)
		c.Invalidate([]mem.Range{{At: 0, Len: size}})
		c.Flush()
		if c.Valid() != 0 || c.Hits() != 0 || c.Misses() != 0 {
			t.Errorf("Valid, Hits and Misses are %d, %d, %d, want zeros", c.Valid(), c.Hits(), c.Misses())
		}
	}
}

// Nothing is promised for a nil Memory and for spans of other numbers, but the methods must end without a panic.
func TestOtherArguments(t *testing.T) {
	for _, c := range []*Cache{nil, {}, New(api.XOChip, true), New(api.XOChip, false)} {
		for _, a := range addresses {
			c.Get(nil, a)
			c.Get(new(mem.Memory), a)
			for _, n := range []int{math.MinInt, -1, 0, 1, size + 1, math.MaxInt} {
				c.Invalidate([]mem.Range{{At: a, Len: n}})
			}
		}
	}
}
