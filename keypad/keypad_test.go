package keypad

import (
	"math"
	"slices"
	"testing"

	"cosmac/api"
)

// The models of all tests are sets of keys, as the bits of a number, and are changed and read without the functions of the package.

// pad returns the keypad on which the keys of a set are down.
func pad(set uint16) Pad {
	var p Pad
	for k := range 16 {
		p.Down[k] = set&(1<<k) != 0
	}
	return p
}

// of returns the keypad on which the listed keys are down.
func of(keys ...int) Pad {
	var p Pad
	for _, k := range keys {
		p.Down[k] = true
	}
	return p
}

// sets returns the empty and the full set, the sets of one key and of all keys but one, and irregular ones.
func sets() []uint16 {
	list := []uint16{0, 0xFFFF, 0x5555, 0xAAAA, 0x00FF, 0xFF00, 0x8001, 0x1234, 0xC9E3}
	for k := range 16 {
		list = append(list, 1<<k, ^uint16(1<<k))
	}
	return list
}

// noKeys holds numbers that are no keys: most of them are a key modulo 16, or after a conversion to fewer bits.
var noKeys = []int{
	-1, -2, -15, -16, -17, -32, -256, 16, 17, 20, 31, 32, 127, 128, 255, 256, 261, 65535, 65536, 65541,
	1 << 31, 1 << 32, 1<<32 + 5, -1 << 32, math.MaxInt32, math.MinInt32, math.MaxInt, math.MaxInt - 10, math.MinInt, math.MinInt + 1, math.MinInt + 5,
}

// event is shorter to write than the literal.
func event(key int, down bool) api.KeyEvent { return api.KeyEvent{Key: key, Down: down} }

var both = []bool{false, true}

// P9.1: all events with a key, on all keypads.
func TestApply(t *testing.T) {
	for number := range 1 << 16 {
		set := uint16(number)
		p := pad(set)
		for k := range 16 {
			bit := uint16(1) << k
			if got, release := Apply(p, event(k, true)); got != pad(set|bit) || release {
				t.Fatalf("after %d down on %v: %v, release %v", k, p, got, release)
			}
			if got, release := Apply(p, event(k, false)); got != pad(set&^bit) || release != (set&bit != 0) {
				t.Fatalf("after %d up on %v: %v, release %v", k, p, got, release)
			}
		}
	}
}

// P9.1: an event is a release only if the key was down and is not afterwards: without the model.
func TestApplyRelease(t *testing.T) {
	for _, c := range []struct {
		p       Pad
		e       api.KeyEvent
		want    Pad
		release bool
	}{
		{of(), event(5, false), of(), false},
		{of(), event(5, true), of(5), false},
		{of(5), event(5, true), of(5), false},
		{of(5), event(5, false), of(), true},
		{of(4, 6), event(5, false), of(4, 6), false},
		{of(4, 6), event(5, true), of(4, 5, 6), false},
		{of(0, 15), event(0, false), of(15), true},
		{of(0, 15), event(15, false), of(0), true},
		{of(), event(0, true), of(0), false},
		{of(), event(15, true), of(15), false},
	} {
		if got, release := Apply(c.p, c.e); got != c.want || release != c.release {
			t.Errorf("after %v on %v: %v, release %v", c.e, c.p, got, release)
		}
	}
}

// P9.1: an event with a Key that is not from 0 to 15 has no effect.
func TestApplyNoKey(t *testing.T) {
	for _, set := range sets() {
		p := pad(set)
		for _, k := range noKeys {
			for _, down := range both {
				if got, release := Apply(p, event(k, down)); got != p || release {
					t.Errorf("after %v on %v: %v, release %v", event(k, down), p, got, release)
				}
			}
		}
	}
}

// P9.2: lists of events with their releases, without the model.
func TestAll(t *testing.T) {
	for _, c := range []struct {
		name     string
		p        Pad
		l        []api.KeyEvent
		want     Pad
		releases []int
	}{
		{"the chapter's example", of(), []api.KeyEvent{event(5, true), event(5, false), event(6, false)}, of(), []int{5}},
		{"one press", of(), []api.KeyEvent{event(5, true)}, of(5), nil},
		{"one release", of(5, 7), []api.KeyEvent{event(5, false)}, of(7), []int{5}},
		{"an event without effect", of(7), []api.KeyEvent{event(5, false)}, of(7), nil},
		{"up before down", of(), []api.KeyEvent{event(5, false), event(5, true)}, of(5), nil},
		{"up before down, of a key that is down", of(5), []api.KeyEvent{event(5, false), event(5, true)}, of(5), []int{5}},
		{"the second up is not a release", of(5), []api.KeyEvent{event(5, false), event(5, false)}, of(), []int{5}},
		{"the second down is not a press", of(), []api.KeyEvent{event(5, true), event(5, true), event(5, false)}, of(), []int{5}},
		{"a key that is released twice", of(), []api.KeyEvent{event(5, true), event(5, false), event(5, true), event(5, false)}, of(), []int{5, 5}},
		{"in the order of the releases, not of the keys", of(1, 2, 3), []api.KeyEvent{event(3, false), event(1, false), event(2, false)}, of(), []int{3, 1, 2}},
		{"in the order of the releases, not of the presses", of(), []api.KeyEvent{event(9, true), event(2, true), event(2, false), event(9, false)}, of(), []int{2, 9}},
		{"the least and the greatest key", of(0, 15), []api.KeyEvent{event(15, false), event(0, false)}, of(), []int{15, 0}},
		{"numbers that are no keys", of(0, 15), []api.KeyEvent{event(16, false), event(-1, false), event(31, true), event(0, false), event(16, true), event(-16, true)}, of(15), []int{0}},
	} {
		if got, releases := All(c.p, c.l); got != c.want || !slices.Equal(releases, c.releases) {
			t.Errorf("%s: %v, releases %v, want %v, releases %v", c.name, got, releases, c.want, c.releases)
		}
	}
}

// P9.2: nothing happens without events, nil or empty, nor with events that are none of a key.
func TestAllNothing(t *testing.T) {
	var none []api.KeyEvent
	for _, k := range noKeys {
		none = append(none, event(k, true), event(k, false))
	}
	for _, set := range sets() {
		p := pad(set)
		for _, l := range [][]api.KeyEvent{nil, {}, none} {
			if got, releases := All(p, l); got != p || len(releases) != 0 {
				t.Errorf("after %d events on %v: %v, releases %v", len(l), p, got, releases)
			}
		}
	}
}

// P9.2: every key is released from every keypad on which it is down, in both orders of the keys.
func TestAllKeys(t *testing.T) {
	for number := range 1 << 16 {
		set := uint16(number)
		var up, down []api.KeyEvent
		var want []int
		for k := range 16 {
			up = append(up, event(k, false))
			down = append(down, event(15-k, false))
			if set&(1<<k) != 0 {
				want = append(want, k)
			}
		}
		if got, releases := All(pad(set), up); got != (Pad{}) || !slices.Equal(releases, want) {
			t.Fatalf("ascending, on %v: %v, releases %v", pad(set), got, releases)
		}
		slices.Reverse(want)
		if got, releases := All(pad(set), down); got != (Pad{}) || !slices.Equal(releases, want) {
			t.Fatalf("descending, on %v: %v, releases %v", pad(set), got, releases)
		}
	}
}

// irregular returns n events, which are the same in each run; some of them have a Key that is no key.
func irregular(seed uint64, n int) []api.KeyEvent {
	var l []api.KeyEvent
	for range n {
		seed = seed*6364136223846793005 + 1442695040888963407
		l = append(l, event(int(seed>>40%24)-4, seed>>33&1 == 1))
	}
	return l
}

// P9.2: long lists of irregular events, compared with the model after every number of events.
func TestAllLong(t *testing.T) {
	for i, first := range sets() {
		l := irregular(uint64(i), 300)
		set := first
		var want []int
		for n, e := range l {
			if got, releases := All(pad(first), l[:n]); got != pad(set) || !slices.Equal(releases, want) {
				t.Fatalf("after %v on %v: %v, releases %v, want %v, releases %v", l[:n], pad(first), got, releases, pad(set), want)
			}
			if e.Key < 0 || e.Key > 15 {
				continue
			}
			bit := uint16(1) << e.Key
			if set&bit != 0 && !e.Down {
				want = append(want, e.Key)
			}
			if set &^= bit; e.Down {
				set |= bit
			}
		}
	}
}

// P9.2: neither the events nor the unused capacity of their slice are modified, and the releases of two calls are independent.
func TestAllArguments(t *testing.T) {
	list := irregular(7, 64)
	old := slices.Clone(list)
	p := of(0, 1, 2, 3)
	_, releases := All(p, list[:32])
	if !slices.Equal(list, old) {
		t.Errorf("the events are %v, and were %v", list, old)
	}
	if p != of(0, 1, 2, 3) {
		t.Errorf("the keypad is %v", p)
	}
	if len(releases) == 0 {
		t.Fatal("no releases")
	}
	want := slices.Clone(releases)
	for i := range releases {
		releases[i] = -1
	}
	_ = append(releases, -1)
	if _, again := All(p, list[:32]); !slices.Equal(again, want) {
		t.Errorf("the releases are %v, and were %v", again, want)
	}
}

// P9.3: all keys of all keypads, as they are and plus multiples of 16.
func TestIsDown(t *testing.T) {
	for number := range 1 << 16 {
		set := uint16(number)
		p := pad(set)
		for k := range 16 {
			want := set&(1<<k) != 0
			for _, n := range []int{k, k + 16, k + 240} {
				if IsDown(p, n) != want {
					t.Fatalf("the key %d of %v is down: %v", n, p, !want)
				}
			}
		}
	}
}

// P9.3: great numbers are taken modulo 16, too.
func TestIsDownGreat(t *testing.T) {
	for _, c := range []struct{ n, key int }{
		{15, 15}, {16, 0}, {31, 15}, {32, 0}, {255, 15}, {256, 0}, {65535, 15}, {65536, 0}, {65541, 5},
		{1 << 31, 0}, {1<<32 + 5, 5}, {math.MaxInt32, 15}, {math.MaxInt - 10, 5}, {math.MaxInt, 15},
	} {
		for k := range 16 {
			if got := IsDown(of(k), c.n); got != (k == c.key) {
				t.Errorf("the key %d of %v is down: %v", c.n, of(k), got)
			}
		}
	}
}

// P9.3: no key has a negative number.
func TestIsDownNegative(t *testing.T) {
	negative := []int{math.MinInt, math.MinInt + 1, math.MinInt + 5, math.MinInt32, -1 << 32, -65536, -256}
	for n := -40; n < 0; n++ {
		negative = append(negative, n)
	}
	for _, set := range sets() {
		for _, n := range negative {
			if IsDown(pad(set), n) {
				t.Errorf("the key %d of %v is down", n, pad(set))
			}
		}
	}
}

// P9.3: the least key of all keypads.
func TestLowest(t *testing.T) {
	for number := range 1 << 16 {
		want := -1
		for k := 15; k >= 0; k-- {
			if number&(1<<k) != 0 {
				want = k
			}
		}
		if got := Lowest(pad(uint16(number))); got != want {
			t.Fatalf("the least key of %v is %d, want %d", pad(uint16(number)), got, want)
		}
	}
}

// P9.3: edge cases of the least key, without the model.
func TestLowestEdges(t *testing.T) {
	for _, c := range []struct {
		p    Pad
		want int
	}{
		{Pad{}, -1}, {of(0), 0}, {of(15), 15}, {of(0, 15), 0}, {of(14, 15), 14}, {of(9, 3, 12), 3}, {pad(0xFFFF), 0},
	} {
		if got := Lowest(c.p); got != c.want {
			t.Errorf("the least key of %v is %d, want %d", c.p, got, c.want)
		}
	}
}
