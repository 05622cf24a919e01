package flags

import (
	"bytes"
	"math"
	"slices"
	"testing"

	"cosmac/api"
)

// counted returns n bytes that count up from first.
func counted(n int, first byte) []byte {
	list := make([]byte, n)
	for i := range list {
		list[i] = first + byte(i)
	}
	return list
}

// mixed returns flags no two of which are equal, and none of which is zero.
func mixed() Flags {
	var f Flags
	for i := range f.V {
		f.V[i] = byte(200 - 7*i)
	}
	return f
}

// P12.1: the chapter's example.
func TestExample(t *testing.T) {
	f := Save(Save(Flags{}, []byte{1, 2, 3}), []byte{9})
	if got := Load(f, 3); !bytes.Equal(got, []byte{9, 2, 3}) {
		t.Errorf("the first three flags are %v", got)
	}
}

// P12.1: no bytes, some, all, and more than there are flags.
func TestSave(t *testing.T) {
	full := [16]byte{1, 2, 3, 4, 5, 6, 7, 8, 9, 10, 11, 12, 13, 14, 15, 16}
	old := Flags{V: [16]byte{20, 21, 22, 23, 24, 25, 26, 27, 28, 29, 30, 31, 32, 33, 34, 35}}
	for _, c := range []struct {
		name string
		b    []byte
		want [16]byte
	}{
		{"nil", nil, old.V},
		{"no bytes", []byte{}, old.V},
		{"one byte", []byte{1}, [16]byte{1, 21, 22, 23, 24, 25, 26, 27, 28, 29, 30, 31, 32, 33, 34, 35}},
		{"a zero byte", []byte{0}, [16]byte{0, 21, 22, 23, 24, 25, 26, 27, 28, 29, 30, 31, 32, 33, 34, 35}},
		{"8 bytes", counted(8, 1), [16]byte{1, 2, 3, 4, 5, 6, 7, 8, 28, 29, 30, 31, 32, 33, 34, 35}},
		{"15 bytes", counted(15, 1), [16]byte{1, 2, 3, 4, 5, 6, 7, 8, 9, 10, 11, 12, 13, 14, 15, 35}},
		{"16 bytes", counted(16, 1), full},
		{"17 bytes", counted(17, 1), full},
		{"32 bytes", counted(32, 1), full},
		{"many bytes", counted(70000, 1), full},
	} {
		if got := Save(old, c.b); got.V != c.want {
			t.Errorf("%s: %v, want %v", c.name, got.V, c.want)
		}
	}
}

// P12.1: flag by flag, for all numbers of bytes around the number of flags.
func TestSaveBytes(t *testing.T) {
	for _, old := range []Flags{{}, mixed()} {
		for n := range 40 {
			b := counted(n, 50)
			f := Save(old, b)
			for i, got := range f.V {
				want := old.V[i]
				if i < n {
					want = b[i]
				}
				if got != want {
					t.Errorf("the flag %d after saving %d bytes is %d, want %d", i, n, got, want)
				}
			}
		}
	}
}

// P12.1: every flag keeps every byte.
func TestSaveValues(t *testing.T) {
	for v := range 256 {
		b := slices.Repeat([]byte{byte(v)}, 16)
		if got := Load(Save(mixed(), b), 16); !bytes.Equal(got, b) {
			t.Errorf("after saving bytes %d the flags are %v", v, got)
		}
	}
}

// P12.1: neither the flags nor the bytes that are passed are changed, nor the capacity behind the bytes, and later changes of the bytes are not seen.
func TestSaveIndependence(t *testing.T) {
	old := mixed()
	room := counted(20, 1)
	b := room[2:7]
	f := Save(old, b)
	if !bytes.Equal(room, counted(20, 1)) {
		t.Errorf("the bytes are changed to %v", room)
	}
	if old != mixed() {
		t.Errorf("the flags are changed to %v", old)
	}
	b[0] = 99
	if f.V[0] != 3 {
		t.Errorf("the flags follow the bytes: %v", f)
	}
}

// P12.2: no flags, some, all, and numbers below 0 and above 16.
func TestLoad(t *testing.T) {
	f := Flags{V: [16]byte{3, 1, 4, 1, 5, 9, 2, 6, 5, 3, 5, 8, 9, 7, 9, 0}}
	all := []byte{3, 1, 4, 1, 5, 9, 2, 6, 5, 3, 5, 8, 9, 7, 9, 0}
	for _, c := range []struct {
		n    int
		want []byte
	}{
		{0, nil}, {1, []byte{3}}, {2, []byte{3, 1}}, {3, []byte{3, 1, 4}}, {8, []byte{3, 1, 4, 1, 5, 9, 2, 6}},
		{15, []byte{3, 1, 4, 1, 5, 9, 2, 6, 5, 3, 5, 8, 9, 7, 9}}, {16, all},
		{17, all}, {18, all}, {32, all}, {255, all}, {256, all}, {257, all}, {65536, all}, {1<<31 - 1, all}, {1 << 31, all},
		{1 << 32, all}, {1<<32 + 1, all}, {1 << 40, all}, {math.MaxInt - 1, all}, {math.MaxInt, all},
		{-1, nil}, {-2, nil}, {-15, nil}, {-16, nil}, {-17, nil}, {-255, nil}, {-256, nil}, {-1 << 31, nil},
		{-1<<32 + 1, nil}, {-1 << 32, nil}, {math.MinInt + 1, nil}, {math.MinInt, nil},
	} {
		if got := Load(f, c.n); !bytes.Equal(got, c.want) {
			t.Errorf("the first %d flags are %v, want %v", c.n, got, c.want)
		}
	}
}

// P12.2: for all numbers around those of the flags, byte by byte.
func TestLoadBytes(t *testing.T) {
	f := mixed()
	for n := -40; n <= 40; n++ {
		var want []byte
		for i, v := range f.V {
			if i < n {
				want = append(want, v)
			}
		}
		if got := Load(f, n); !bytes.Equal(got, want) {
			t.Errorf("the first %d flags are %v, want %v", n, got, want)
		}
	}
}

// P12.2: the flags are zero at first.
func TestLoadFirst(t *testing.T) {
	if got := Load(Flags{}, 16); !bytes.Equal(got, make([]byte, 16)) {
		t.Errorf("the flags are %v at first", got)
	}
}

// P12.2: the result is new memory, also where bytes are appended to it.
func TestLoadIndependence(t *testing.T) {
	f := mixed()
	for n := range 18 {
		first, second := Load(f, n), Load(f, n)
		for i := range first {
			first[i] = 0
		}
		first = append(first, 1, 2, 3)
		if f != mixed() {
			t.Errorf("the flags follow the result for %d: %v", n, f)
		}
		kept := mixed()
		if want := kept.V[:min(n, 16)]; !bytes.Equal(second, want) {
			t.Errorf("the results for %d share memory: %v, after the other one became %v", n, second, first)
		}
	}
}

// P12.3: the greatest flags of both levels, one beyond them, and other levels.
func TestAllowedEdges(t *testing.T) {
	for _, c := range []struct {
		level, x int
		want     bool
	}{
		{api.SuperChip, 0, true}, {api.SuperChip, 7, true}, {api.SuperChip, 8, false}, {api.SuperChip, 15, false}, {api.SuperChip, 16, false}, {api.SuperChip, -1, false},
		{api.XOChip, 0, true}, {api.XOChip, 7, true}, {api.XOChip, 8, true}, {api.XOChip, 15, true}, {api.XOChip, 16, false}, {api.XOChip, -1, false},
		{api.Chip8, 0, false}, {api.Chip8, 7, false}, {api.Chip8, -1, false},
		{0, 0, false}, {4, 0, false}, {5, 3, false}, {-1, 0, false}, {-2, 0, false}, {-3, 0, false},
	} {
		if got := Allowed(c.level, c.x); got != c.want {
			t.Errorf("the level %d is allowed the flags up to %d: %v", c.level, c.x, got)
		}
	}
}

// P12.3: the levels in the order of their numbers, and all x around those of the flags.
func TestAllowed(t *testing.T) {
	for level, number := range map[int]int{-1: 0, 0: 0, 1: 0, 2: 8, 3: 16, 4: 0, 5: 0, 6: 0, 7: 0} {
		allowed := 0
		for x := -300; x <= 300; x++ {
			got := Allowed(level, x)
			if got {
				allowed++
			}
			if got != (0 <= x && x < number) {
				t.Errorf("the level %d is allowed the flags up to %d: %v", level, x, got)
			}
		}
		if allowed != number {
			t.Errorf("the level %d is allowed %d flags, want %d", level, allowed, number)
		}
	}
}

// P12.3: huge numbers are not taken for the small ones that have the same last bits.
func TestAllowedHuge(t *testing.T) {
	huge := []int{1 << 8, 1 << 16, 1 << 31, 1 << 32, 1 << 40, 1 << 62, -1 << 8, -1 << 16, -1 << 31, -1 << 32, -1 << 40, -1 << 62, math.MinInt}
	for _, add := range huge {
		for level := range 5 {
			for x := range 17 {
				if Allowed(level+add, x) {
					t.Errorf("the level %d is allowed the flags up to %d", level+add, x)
				}
				if Allowed(level, x+add) {
					t.Errorf("the level %d is allowed the flags up to %d", level, x+add)
				}
			}
		}
	}
	for _, n := range []int{math.MaxInt, math.MinInt} {
		if Allowed(n, 0) || Allowed(n, n) || Allowed(api.SuperChip, n) || Allowed(api.XOChip, n) {
			t.Errorf("the number %d is allowed", n)
		}
	}
}
