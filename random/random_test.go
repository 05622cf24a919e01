package random

import (
	"bytes"
	"math"
	"testing"
)

// negative holds numbers that count no bytes.
var negative = []int{-1, -2, -3, -7, -8, -255, -256, -257, -65536, -1 << 31, -1<<31 - 1, -1 << 32, -1 << 62, math.MinInt + 1, math.MinInt}

// great holds numbers of bytes that nobody reads one by one.
var great = []int{65535, 65536, 65537, 1<<31 - 1, 1 << 31, 1 << 32, 1<<32 + 1, 1 << 40, 1 << 62, 1<<62 + 1, math.MaxInt - 1, math.MaxInt}

// counted returns n bytes that count up from first.
func counted(n int, first byte) []byte {
	list := make([]byte, n)
	for i := range list {
		list[i] = first + byte(i)
	}
	return list
}

// lists returns lists of all kinds: empty, with one byte, with equal bytes, with a zero, and with a length that is a power of two or is not.
func lists() [][]byte {
	return [][]byte{
		nil, {}, {0}, {9}, {255}, {7, 8}, {5, 5}, {0, 1}, {3, 1, 4}, {0, 0, 1, 0, 0},
		counted(7, 200), counted(8, 1), counted(255, 0), counted(256, 0), counted(257, 1), counted(1000, 3),
	}
}

// repeated returns the first n bytes of the stream of a list, without a division.
func repeated(list []byte, n int) []byte {
	if len(list) == 0 {
		return make([]byte, n)
	}
	var all []byte
	for len(all) < n {
		all = append(all, list...)
	}
	return all[:n]
}

// read returns the next n bytes of a stream.
func read(s *Stream, n int) []byte {
	var all []byte
	for range n {
		all = append(all, s.Next())
	}
	return all
}

// length returns a number of bytes that is more than two rounds of a list.
func length(list []byte) int { return 2*len(list) + 5 }

// P13.1: the chapter's example.
func TestExample(t *testing.T) {
	if got := read(New([]byte{7, 8}), 7); !bytes.Equal(got, []byte{7, 8, 7, 8, 7, 8, 7}) {
		t.Errorf("the stream of 7, 8 yields %v", got)
	}
}

// P13.1: the bytes of all kinds of lists, and their number before and after each one; Count itself reads nothing.
func TestNext(t *testing.T) {
	for _, list := range lists() {
		s := New(list)
		for i, want := range repeated(list, length(list)) {
			if first, second := s.Count(), s.Count(); first != i || second != i {
				t.Fatalf("%v: the number after %d bytes is %d, and then %d", list, i, first, second)
			}
			if got := s.Next(); got != want {
				t.Fatalf("%v: the byte %d is %d, want %d", list, i, got, want)
			}
		}
	}
}

// P13.1: the stream of the empty list yields zeros, which are counted.
func TestNextEmpty(t *testing.T) {
	for _, s := range []*Stream{New(nil), New([]byte{}), new(Stream), Resume(nil, 0), Resume([]byte{}, -1)} {
		if got := read(s, 9); !bytes.Equal(got, make([]byte, 9)) {
			t.Errorf("the stream of the empty list yields %v", got)
		}
		if s.Count() != 9 {
			t.Errorf("the number after 9 bytes is %d", s.Count())
		}
	}
}

// P13.1: two streams of one list are independent.
func TestNewAgain(t *testing.T) {
	list := []byte{3, 1, 4}
	first := New(list)
	read(first, 2)
	second := New(list)
	if second.Count() != 0 || second.Next() != 3 || first.Next() != 4 || first.Count() != 3 || second.Count() != 1 {
		t.Error("the streams of one list depend on each other")
	}
}

// P13.1: the zero Stream is that of the empty list, of which nothing was read.
func TestZeroStream(t *testing.T) {
	var s Stream
	if s.Count() != 0 || len(s.List()) != 0 {
		t.Errorf("the zero Stream has the number %d and the list %v", s.Count(), s.List())
	}
	c := s.Clone()
	if c == nil {
		t.Fatal("the clone of the zero Stream is nil")
	}
	if c.Count() != 0 || len(c.List()) != 0 || c.Next() != 0 {
		t.Error("the clone of the zero Stream is not like it")
	}
	if s.Next() != 0 || s.Count() != 1 || c.Count() != 1 || s.Next() != 0 || s.Count() != 2 || c.Count() != 1 {
		t.Error("the zero Stream and its clone depend on each other, or do not count")
	}
}

// P13.1, P13.2, P13.4: the methods of a nil Stream return zero values, each time.
func TestNilStream(t *testing.T) {
	var s *Stream
	for range 3 {
		if s.Next() != 0 || s.Count() != 0 || s.Clone() != nil || len(s.List()) != 0 {
			t.Error("the methods of a nil Stream return other values than zero")
		}
	}
}

// P13.2: after any number of bytes, the clone goes on like the stream, and they do not count each other's bytes.
func TestClone(t *testing.T) {
	for _, list := range lists() {
		want := repeated(list, 2*length(list))
		for _, n := range []int{0, 1, 2, 3, len(list), len(list) + 1, length(list)} {
			s := New(list)
			read(s, n)
			c := s.Clone()
			if c.Count() != n || !bytes.Equal(c.List(), list) {
				t.Fatalf("the clone of %v after %d bytes has the number %d and the list %v", list, n, c.Count(), c.List())
			}
			rest := len(want) - n
			if got := read(c, rest); !bytes.Equal(got, want[n:]) {
				t.Fatalf("the clone of %v after %d bytes yields %v", list, n, got)
			}
			if s.Count() != n || c.Count() != len(want) {
				t.Fatalf("the clone of %v after %d bytes: the numbers are %d and %d", list, n, s.Count(), c.Count())
			}
			if got := read(s, rest); !bytes.Equal(got, want[n:]) {
				t.Fatalf("%v after %d bytes yields %v after its clone was read", list, n, got)
			}
		}
	}
}

// P13.2: a clone does not follow the stream, and a clone of a clone neither of them.
func TestCloneIndependence(t *testing.T) {
	s := New([]byte{3, 1, 4})
	s.Next()
	first := s.Clone()
	s.Next()
	second := first.Clone()
	if first.Count() != 1 || second.Count() != 1 || first.Next() != 1 || first.Next() != 4 || second.Next() != 1 {
		t.Error("the clones follow the stream")
	}
	if s.Count() != 2 || first.Count() != 3 || second.Count() != 2 || s.Next() != 4 {
		t.Error("the streams count each other's bytes")
	}
}

// P13.3: edge cases: the first and the last byte of a list, the ones after it, the empty list, and negative numbers.
func TestAtEdges(t *testing.T) {
	for _, c := range []struct {
		list []byte
		n    int
		want byte
	}{
		{[]byte{9, 1, 4}, 0, 9}, {[]byte{9, 1, 4}, 1, 1}, {[]byte{9, 1, 4}, 2, 4}, {[]byte{9, 1, 4}, 3, 9}, {[]byte{9, 1, 4}, 301, 1},
		{[]byte{9, 1, 4}, -1, 0}, {[]byte{9, 1, 4}, -2, 0}, {[]byte{9, 1, 4}, -3, 0}, {[]byte{9, 1, 4}, math.MinInt, 0},
		{[]byte{5}, 0, 5}, {[]byte{5}, 1, 5}, {[]byte{5}, math.MaxInt, 5}, {[]byte{5}, -1, 0},
		{[]byte{7, 8}, math.MaxInt, 8}, {[]byte{7, 8}, math.MaxInt - 1, 7}, {[]byte{7, 8}, 1 << 62, 7}, {[]byte{7, 8}, 1<<32 + 1, 8},
		{nil, 0, 0}, {nil, 1, 0}, {nil, math.MaxInt, 0}, {nil, -1, 0}, {[]byte{}, 1, 0}, {[]byte{}, math.MinInt, 0},
	} {
		if got := At(c.list, c.n); got != c.want {
			t.Errorf("the byte after %d of %v is %d, want %d", c.n, c.list, got, c.want)
		}
	}
}

// P13.3: the same bytes as those of the stream.
func TestAt(t *testing.T) {
	for _, list := range lists() {
		for n, want := range repeated(list, length(list)) {
			if got := At(list, n); got != want {
				t.Fatalf("the byte after %d of %v is %d, want %d", n, list, got, want)
			}
		}
	}
}

// P13.3: great numbers, and 0 for all negative ones, also where the list has no zeros.
func TestAtFar(t *testing.T) {
	for _, list := range lists() {
		for _, n := range great {
			var want byte
			if len(list) > 0 {
				want = list[n%len(list)]
			}
			if got := At(list, n); got != want {
				t.Errorf("the byte after %d of %v is %d, want %d", n, list, got, want)
			}
		}
		for _, n := range negative {
			if got := At(list, n); got != 0 {
				t.Errorf("the byte after %d of %v is %d", n, list, got)
			}
		}
	}
}

// P13.4: the list is the whole one, whatever was read, in new memory.
func TestList(t *testing.T) {
	for _, list := range lists() {
		s := New(list)
		for range length(list) {
			if got := s.List(); !bytes.Equal(got, list) {
				t.Fatalf("the list after %d bytes is %v, want %v", s.Count(), got, list)
			}
			s.Next()
		}
	}
}

// P13.4, P13.5: changes of a result of List, also behind its end, change neither the stream, nor its clone, nor other results.
func TestListIndependence(t *testing.T) {
	s := New([]byte{3, 1, 4})
	c := s.Clone()
	for _, x := range []*Stream{s, c} {
		first, second := x.List(), x.List()
		clear(first)
		_ = append(first, 1, 2, 3)
		if !bytes.Equal(second, []byte{3, 1, 4}) {
			t.Errorf("the results of List share memory: %v", second)
		}
	}
	for _, x := range []*Stream{s, c} {
		if got := x.List(); !bytes.Equal(got, []byte{3, 1, 4}) {
			t.Errorf("the list follows a result of List: %v", got)
		}
		if got := read(x, 4); !bytes.Equal(got, []byte{3, 1, 4, 3}) {
			t.Errorf("the stream follows a result of List: %v", got)
		}
	}
}

// P13.4: after any number of bytes, the resumed stream goes on like one that was read.
func TestResume(t *testing.T) {
	for _, list := range lists() {
		want := repeated(list, 2*length(list))
		for n := range length(list) {
			s := Resume(list, n)
			if s.Count() != n || !bytes.Equal(s.List(), list) {
				t.Fatalf("%v resumed after %d bytes has the number %d and the list %v", list, n, s.Count(), s.List())
			}
			if got := read(s, 4); !bytes.Equal(got, want[n:n+4]) {
				t.Fatalf("%v resumed after %d bytes yields %v, want %v", list, n, got, want[n:n+4])
			}
			if s.Count() != n+4 {
				t.Fatalf("%v resumed after %d bytes has the number %d after 4 more", list, n, s.Count())
			}
		}
	}
}

// P13.4: nothing was read of a stream that is resumed with a negative number.
func TestResumeNegative(t *testing.T) {
	for _, list := range lists() {
		for _, n := range negative {
			s := Resume(list, n)
			if s.Count() != 0 || !bytes.Equal(s.List(), list) {
				t.Fatalf("%v resumed after %d bytes has the number %d and the list %v", list, n, s.Count(), s.List())
			}
			if got, want := read(s, length(list)), repeated(list, length(list)); !bytes.Equal(got, want) {
				t.Fatalf("%v resumed after %d bytes yields %v", list, n, got)
			}
			if s.Count() != length(list) {
				t.Fatalf("%v resumed after %d bytes has the number %d after %d bytes", list, n, s.Count(), length(list))
			}
		}
	}
}

// P13.4: great numbers of bytes, for the stream and its clone.
func TestResumeGreat(t *testing.T) {
	for _, list := range lists() {
		for _, n := range great {
			for _, s := range []*Stream{Resume(list, n), Resume(list, n).Clone()} {
				if s.Count() != n {
					t.Errorf("%v resumed after %d bytes has the number %d", list, n, s.Count())
				}
				if got, want := s.Next(), At(list, n); got != want {
					t.Errorf("%v resumed after %d bytes yields %d, want %d", list, n, got, want)
				}
				if want := n + 1; n < math.MaxInt && s.Count() != want {
					t.Errorf("%v resumed after %d bytes has the number %d after the next one", list, n, s.Count())
				}
			}
		}
	}
}

// P13.1, P13.4: a stream goes on with the right bytes after the greatest number that Count can return, which it then keeps.
func TestGreatestCount(t *testing.T) {
	for _, list := range lists() {
		s := Resume(list, math.MaxInt)
		place := 0
		if len(list) > 0 {
			place = math.MaxInt % len(list)
		}
		want := repeated(list, place+length(list))[place:]
		if got := read(s, len(want)); !bytes.Equal(got, want) {
			t.Errorf("%v yields %v after the greatest number, want %v", list, got, want)
		}
		if s.Count() != math.MaxInt || s.Clone().Count() != math.MaxInt {
			t.Errorf("%v has the number %d, and its clone %d", list, s.Count(), s.Clone().Count())
		}
		if got, want := s.Clone().Next(), s.Next(); got != want {
			t.Errorf("the clone of %v yields %d, want %d", list, got, want)
		}
	}
}

// P13.5: neither the list nor the capacity behind it is modified.
func TestListUnchanged(t *testing.T) {
	room := counted(20, 1)
	list := room[2:7]
	for _, s := range []*Stream{New(list), Resume(list, 3), Resume(list, -3), New(list).Clone()} {
		read(s, 12)
		_ = append(s.List(), 77)
		At(list, 8)
		At(list, -8)
		if !bytes.Equal(room, counted(20, 1)) {
			t.Fatalf("the list is changed to %v", room)
		}
	}
}

// P13.5: later changes of the list, before and after reading, change no stream.
func TestListChanged(t *testing.T) {
	list := []byte{3, 1, 4}
	s := New(list)
	streams := []*Stream{s, s.Clone(), Resume(list, 0), Resume(list, -1), Resume(list, 3).Clone()}
	for round := range 4 {
		for i := range list {
			list[i] = byte(100*round + 50 + i)
		}
		for i, x := range streams {
			if got := x.List(); !bytes.Equal(got, []byte{3, 1, 4}) {
				t.Errorf("the list of the stream %d became %v", i, got)
			}
			if got := read(x, 3); !bytes.Equal(got, []byte{3, 1, 4}) {
				t.Errorf("the stream %d yields %v", i, got)
			}
		}
	}
}
