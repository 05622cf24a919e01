package addr

import (
	"math"
	"slices"
	"testing"

	"cosmac/api"
)

const size = 65536

// known is a span with its addresses, as the chapter defines them.
type known struct {
	a, n int
	list []int
	set  [size]bool
}

// newKnown returns a span, made without the functions of the package.
func newKnown(a, n int) *known {
	s := &known{a: a, n: n}
	b := a
	for range n {
		s.list = append(s.list, b)
		s.set[b] = true
		if b++; b == size {
			b = 0
		}
	}
	return s
}

// meets reports whether the spans have an address in common.
func (s *known) meets(other *known) bool {
	if other.n < s.n {
		s, other = other, s
	}
	return slices.ContainsFunc(s.list, func(b int) bool { return other.set[b] })
}

// allKnown returns spans at the edges and in the middle of the memory, with lengths that are small, half the memory, and almost or exactly all of it.
func allKnown() []*known {
	var all []*known
	for _, a := range []int{0, 1, 2, 3, 5, 32767, 32768, 32769, 65530, 65532, 65533, 65534, 65535} {
		for _, n := range []int{0, 1, 2, 3, 4, 7, 32767, 32768, 32769, 65531, 65534, 65535, 65536} {
			all = append(all, newKnown(a, n))
		}
	}
	return all
}

// P3.1
func TestWrapNamedNumbers(t *testing.T) {
	for _, x := range []struct{ n, want int }{
		{0, 0},
		{1, 1},
		{65535, 65535},
		{65536, 0},
		{65537, 1},
		{131071, 65535},
		{131072, 0},
		{1 << 32, 0},
		{1<<40 + 7, 7},
		{-1, 65535},
		{-2, 65534},
		{-65535, 1},
		{-65536, 0},
		{-65537, 65535},
		{-131072, 0},
		{math.MaxInt, 65535},
		{math.MaxInt - 1, 65534},
		{math.MinInt, 0},
		{math.MinInt + 1, 1},
	} {
		if got := Wrap(x.n); got != x.want {
			t.Errorf("Wrap(%d) = %d, want %d", x.n, got, x.want)
		}
	}
}

// P3.1
func TestWrapAroundZero(t *testing.T) {
	for n := -3 * size; n <= 3*size; n++ {
		if got, want := Wrap(n), (n%size+size)%size; got != want {
			t.Fatalf("Wrap(%d) = %d, want %d", n, got, want)
		}
	}
}

// P3.2
func TestCheckEveryAddress(t *testing.T) {
	for a := range size {
		// Up to rest bytes, the span ends at the end of the memory or before it.
		rest := size - a
		for _, n := range []int{0, 1, 2, 16, 32768, rest - 1, rest, rest + 1, rest + 2, size - 1, size} {
			if n > size {
				continue
			}
			want := api.OK
			if n > rest {
				want = api.ErrRange
			}
			if got := Check(a, n, true); got != want {
				t.Fatalf("Check(%d, %d, true) = %d, want %d", a, n, got, want)
			}
			if got := Check(a, n, false); got != api.OK {
				t.Fatalf("Check(%d, %d, false) = %d, want OK", a, n, got)
			}
		}
	}
}

// P3.2
func TestCheckNamedSpans(t *testing.T) {
	for _, x := range []struct {
		a, n  int
		fault bool
		want  api.Errno
	}{
		{0, 0, true, api.OK},
		{65535, 0, true, api.OK},
		{0, 65536, true, api.OK},
		{1, 65535, true, api.OK},
		{65535, 1, true, api.OK},
		{65534, 2, true, api.OK},
		{1, 65536, true, api.ErrRange},
		{65535, 2, true, api.ErrRange},
		{65534, 3, true, api.ErrRange},
		{65535, 65536, true, api.ErrRange},
		{65535, 2, false, api.OK},
		{65534, 3, false, api.OK},
		{65535, 65536, false, api.OK},
	} {
		if got := Check(x.a, x.n, x.fault); got != x.want {
			t.Errorf("Check(%d, %d, %t) = %d, want %d", x.a, x.n, x.fault, got, x.want)
		}
	}
}

// P3.3
func TestListExample(t *testing.T) {
	if got, want := List(65534, 3), []int{65534, 65535, 0}; !slices.Equal(got, want) {
		t.Errorf("List(65534, 3) = %v, want %v", got, want)
	}
}

// P3.3
func TestListOfKnownSpans(t *testing.T) {
	for _, s := range allKnown() {
		if got := List(s.a, s.n); !slices.Equal(got, s.list) {
			t.Errorf("List(%d, %d) has %d addresses %.8v.., want %d, %.8v..", s.a, s.n, len(got), got[:min(8, len(got))], s.n, s.list[:min(8, s.n)])
		}
	}
}

// P3.3
func TestListFromEveryAddress(t *testing.T) {
	for a := range size {
		want := []int{a, (a + 1) % size, (a + 2) % size}
		if got := List(a, 3); !slices.Equal(got, want) {
			t.Fatalf("List(%d, 3) = %v, want %v", a, got, want)
		}
	}
}

// P3.3: a loop over a span may end before the span does.
func TestSpanEndsEarly(t *testing.T) {
	var got []int
	for b := range span(65534, 65536) {
		got = append(got, b)
		if b == 0 {
			break
		}
	}
	if want := []int{65534, 65535, 0}; !slices.Equal(got, want) {
		t.Errorf("the span up to 0 is %v, want %v", got, want)
	}
}

// P3.3: a list belongs to its caller.
func TestListsShareNoMemory(t *testing.T) {
	first := List(65534, 3)
	second := List(65534, 3)
	clear(first)
	want := []int{65534, 65535, 0}
	if third := List(65534, 3); !slices.Equal(second, want) || !slices.Equal(third, want) {
		t.Errorf("after a change of a list, the others are %v and %v, want %v", second, third, want)
	}
}

// P3.3
func TestInEveryAddress(t *testing.T) {
	for _, s := range allKnown() {
		for b := range size {
			if got := In(s.a, s.n, b); got != s.set[b] {
				t.Fatalf("In(%d, %d, %d) = %t", s.a, s.n, b, got)
			}
		}
	}
}

// P3.3
func TestInNamedSpans(t *testing.T) {
	for _, x := range []struct {
		a, n, b int
		want    bool
	}{
		{5, 0, 5, false},
		{0, 0, 0, false},
		{5, 1, 5, true},
		{5, 1, 4, false},
		{5, 1, 6, false},
		{65535, 1, 65535, true},
		{65535, 1, 0, false},
		{65534, 3, 0, true},
		{65534, 3, 1, false},
		{65534, 3, 65533, false},
		{5, 65536, 4, true},
		{5, 65535, 4, false},
		{0, 65536, 65535, true},
		{0, 65535, 65535, false},
	} {
		if got := In(x.a, x.n, x.b); got != x.want {
			t.Errorf("In(%d, %d, %d) = %t", x.a, x.n, x.b, got)
		}
	}
}

// P3.3
func TestOverlapOfKnownSpans(t *testing.T) {
	all := allKnown()
	for _, s := range all {
		for _, other := range all {
			if got, want := Overlap(s.a, s.n, other.a, other.n), s.meets(other); got != want {
				t.Fatalf("Overlap(%d, %d, %d, %d) = %t", s.a, s.n, other.a, other.n, got)
			}
		}
	}
}

// P3.3: two short spans at all distances from each other, wherever the first one is.
func TestOverlapAtEveryDistance(t *testing.T) {
	for _, a := range []int{0, 1, 3, 40000, 65533, 65535} {
		for distance := range size {
			b := (a + distance) % size
			want := distance < 4 || distance > size-3
			if got := Overlap(a, 4, b, 3); got != want {
				t.Fatalf("Overlap(%d, 4, %d, 3) = %t", a, b, got)
			}
			if got := Overlap(b, 3, a, 4); got != want {
				t.Fatalf("Overlap(%d, 3, %d, 4) = %t", b, a, got)
			}
		}
	}
}

// P3.3
func TestOverlapNamedSpans(t *testing.T) {
	for _, x := range []struct {
		a, n, b, m int
		want       bool
	}{
		{10, 4, 10, 4, true},
		{10, 4, 13, 1, true},
		{10, 4, 14, 1, false},
		{10, 4, 5, 100, true},
		{0, 0, 0, 0, false},
		{5, 0, 5, 5, false},
		{7, 0, 5, 5, false},
		{7, 0, 0, 65536, false},
		{65535, 1, 0, 1, false},
		{65535, 2, 0, 1, true},
		{65534, 4, 1, 5, true},
		{65534, 4, 2, 5, false},
		{65534, 4, 65530, 4, false},
		{65534, 4, 65530, 5, true},
		{65535, 3, 65534, 4, true},
		{0, 32768, 32768, 32768, false},
		{0, 32769, 32768, 32768, true},
		{0, 32768, 32768, 32769, true},
		{0, 65536, 9, 1, true},
		{9, 65536, 9, 65536, true},
		{10, 65535, 9, 1, false},
	} {
		if got := Overlap(x.a, x.n, x.b, x.m); got != x.want {
			t.Errorf("Overlap(%d, %d, %d, %d) = %t", x.a, x.n, x.b, x.m, got)
		}
		if got := Overlap(x.b, x.m, x.a, x.n); got != x.want {
			t.Errorf("Overlap(%d, %d, %d, %d) = %t", x.b, x.m, x.a, x.n, got)
		}
	}
}

// The language's rules: no argument makes a function panic or run on; the results are unspecified.
func TestOtherArgumentsEnd(t *testing.T) {
	numbers := []int{math.MinInt, math.MinInt + 1, -65537, -1, 0, 1, 65536, 65537, math.MaxInt - 1, math.MaxInt}
	for _, a := range numbers {
		for _, n := range numbers {
			List(a, n)
			Check(a, n, true)
			Check(a, n, false)
			for _, b := range numbers {
				In(a, n, b)
				for _, m := range numbers {
					Overlap(a, n, b, m)
				}
			}
		}
	}
}
