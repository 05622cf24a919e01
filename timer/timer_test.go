package timer

import (
	"math"
	"testing"
)

// negative holds numbers of ticks that are none; some of them are a small positive number after a conversion to fewer bits.
var negative = []int{
	-1, -2, -3, -127, -128, -129, -254, -255, -256, -257, -65535, -65536,
	math.MinInt32, -1 << 32, 1 - 1<<32, math.MinInt + 3, math.MinInt + 1, math.MinInt,
}

// great holds numbers of ticks that no timer outlasts; most of them are a small or a negative number after a conversion to fewer bits.
var great = []int{
	255, 256, 257, 258, 511, 512, 513, 32768, 65535, 65536, 65537, 65539,
	math.MaxInt32, 1 << 31, 1<<31 + 1, math.MaxUint32, 1 << 32, 1<<32 + 1, 1<<32 + 3, 1<<62 + 1, math.MaxInt - 1, math.MaxInt,
}

// each calls f with all values of both timers.
func each(f func(delay, sound byte)) {
	for d := range 256 {
		for s := range 256 {
			f(byte(d), byte(s))
		}
	}
}

// of is shorter to write than the literal.
func of(delay, sound byte) Timers { return Timers{Delay: delay, Sound: sound} }

// model returns max(0, v - n), as P10.3 has it, for an n that is from 0 to 255.
func model(v byte, n int) byte { return byte(max(0, int(v)-n)) }

// P10.1: a tick decreases each timer by 1, unless it is 0: all values of both timers.
func TestTick(t *testing.T) {
	each(func(delay, sound byte) {
		want := of(delay, sound)
		if delay != 0 {
			want.Delay--
		}
		if sound != 0 {
			want.Sound--
		}
		if got := Tick(of(delay, sound)); got != want {
			t.Errorf("after a tick of %v: %v, want %v", of(delay, sound), got, want)
		}
	})
}

// P10.1: ticks and numbers of ticks, without a model.
func TestAfter(t *testing.T) {
	for _, c := range []struct {
		name string
		old  Timers
		n    int
		want Timers
	}{
		{"the chapter's example", of(2, 5), 3, of(0, 2)},
		{"the chapter's example, with the timers exchanged", of(5, 2), 3, of(2, 0)},
		{"no tick", of(2, 5), 0, of(2, 5)},
		{"a negative number", of(2, 5), -1, of(2, 5)},
		{"the least number", of(2, 5), math.MinInt, of(2, 5)},
		{"one tick", of(2, 5), 1, of(1, 4)},
		{"timers that are 0", of(0, 0), 1, of(0, 0)},
		{"the delay timer is 0", of(0, 1), 1, of(0, 0)},
		{"the sound timer is 0", of(3, 0), 1, of(2, 0)},
		{"one tick before the end", of(255, 255), 254, of(1, 1)},
		{"the end of the greatest timers", of(255, 255), 255, of(0, 0)},
		{"after the end of the greatest timers", of(255, 255), 256, of(0, 0)},
		{"only one timer ends", of(254, 255), 254, of(0, 1)},
		{"a number that is 1 in a byte", of(9, 9), 257, of(0, 0)},
		{"the greatest number", of(255, 1), math.MaxInt, of(0, 0)},
	} {
		if got := After(c.old, c.n); got != c.want {
			t.Errorf("%s: %v, want %v", c.name, got, c.want)
		}
	}
}

// P10.1: After with n is n ticks, one after the other, for all values of both timers.
func TestAfterTicks(t *testing.T) {
	each(func(delay, sound byte) {
		want := of(delay, sound)
		for n := range 260 {
			if got := After(of(delay, sound), n); got != want {
				t.Fatalf("after %d ticks of %v: %v, want %v", n, of(delay, sound), got, want)
			}
			want = Tick(want)
		}
	})
}

// P10.1: After with a negative n returns the timers as they are.
func TestAfterNegative(t *testing.T) {
	each(func(delay, sound byte) {
		for _, n := range negative {
			if got := After(of(delay, sound), n); got != of(delay, sound) {
				t.Fatalf("after %d ticks of %v: %v", n, of(delay, sound), got)
			}
		}
	})
}

// P10.1: no timer outlasts a great number of ticks.
func TestAfterGreat(t *testing.T) {
	each(func(delay, sound byte) {
		for _, n := range great {
			if got := After(of(delay, sound), n); got != of(0, 0) {
				t.Fatalf("after %d ticks of %v: %v", n, of(delay, sound), got)
			}
		}
	})
}

// P10.2: the sound timer alone decides On, for all values of both timers.
func TestOn(t *testing.T) {
	each(func(delay, sound byte) {
		if got := On(of(delay, sound)); got != (sound != 0) {
			t.Errorf("the sound of %v is on: %v", of(delay, sound), got)
		}
	})
}

// P10.2: Left is the number of ticks until both timers are 0, counted tick by tick, for all values of both timers.
func TestLeft(t *testing.T) {
	each(func(delay, sound byte) {
		want := 0
		for d, s := delay, sound; d != 0 || s != 0; want++ {
			d, s = model(d, 1), model(s, 1)
		}
		if got := Left(of(delay, sound)); got != want {
			t.Errorf("ticks that are left of %v: %d, want %d", of(delay, sound), got, want)
		}
	})
}

// P10.2: edge cases of Left, without a count.
func TestLeftEdges(t *testing.T) {
	for _, c := range []struct {
		old  Timers
		want int
	}{
		{of(0, 0), 0}, {of(1, 0), 1}, {of(0, 1), 1}, {of(2, 5), 5}, {of(5, 2), 5}, {of(7, 7), 7},
		{of(255, 0), 255}, {of(0, 255), 255}, {of(128, 127), 128}, {of(127, 128), 128}, {of(255, 255), 255},
	} {
		if got := Left(c.old); got != c.want {
			t.Errorf("ticks that are left of %v: %d, want %d", c.old, got, c.want)
		}
	}
}

// P10.3: a timer with the value v has the value max(0, v - n) after n ticks, whether they are one call or n calls.
func TestValue(t *testing.T) {
	each(func(delay, sound byte) {
		ticked := of(delay, sound)
		for n := range 256 {
			want := of(model(delay, n), model(sound, n))
			if got := After(of(delay, sound), n); got != want {
				t.Fatalf("after %d ticks of %v: %v, want %v", n, of(delay, sound), got, want)
			}
			if ticked != want {
				t.Fatalf("after %d calls of Tick of %v: %v, want %v", n, of(delay, sound), ticked, want)
			}
			ticked = Tick(ticked)
		}
	})
}

// P10.3: the timers are 0 after as many ticks as are left, and not before.
func TestLeftAfter(t *testing.T) {
	each(func(delay, sound byte) {
		old := of(delay, sound)
		n := Left(old)
		if got := After(old, n); got != of(0, 0) {
			t.Errorf("%d ticks are left of %v, after which it is %v", n, old, got)
		}
		if n > 0 && After(old, n-1) == of(0, 0) {
			t.Errorf("%d ticks are left of %v, which is 0 earlier", n, old)
		}
	})
}
