package row

import (
	"fmt"
	"math"
	"testing"
)

// pixels is a row as a list, and the model of all tests: it is made without the functions of the package.
type pixels [128]bool

// list returns the pixels of a row, as the chapter numbers them.
func list(r Row) pixels {
	var p pixels
	for x := range p {
		if x < 64 {
			p[x] = r.High&(1<<(63-x)) != 0
		} else {
			p[x] = r.Low&(1<<(127-x)) != 0
		}
	}
	return p
}

// row returns the row with the pixels of the list.
func (p pixels) row() Row {
	var r Row
	for x, on := range p {
		switch {
		case on && x < 64:
			r.High += 1 << (63 - x)
		case on:
			r.Low += 1 << (127 - x)
		}
	}
	return r
}

// of returns the row with the listed pixels.
func of(list ...int) Row {
	var p pixels
	for _, x := range list {
		p[x] = true
	}
	return p.row()
}

var empty, full = Row{}, Row{math.MaxUint64, math.MaxUint64}

// rows returns rows of a width: the empty and the full one, every single pixel, pixels at the edges and at the boundary of the words, and irregular ones.
func rows(width int) []Row {
	list := []Row{empty, of(0, width-1), of(0, 63), of(62, 63), of(0, 1, 62, 63)}
	for x := range width {
		list = append(list, of(x))
	}
	if width == 128 {
		list = append(list, full, of(63, 64), of(0, 63, 64, 127), of(64, 127), of(62, 65), Row{High: math.MaxUint64}, Row{Low: math.MaxUint64})
	} else {
		list = append(list, Row{High: math.MaxUint64})
	}
	seed := uint64(1)
	next := func() uint64 {
		seed = seed*6364136223846793005 + 1442695040888963407
		return seed ^ seed>>29
	}
	for range 16 {
		r := Row{High: next(), Low: next()}
		if width == 64 {
			r.Low = 0
		}
		list = append(list, r)
	}
	return list
}

// outside holds numbers that are no positions.
var outside = []int{
	-1, -2, -63, -64, -65, -127, -128, -129, -192, -256, 128, 129, 190, 191, 192, 255, 256, 65536,
	1 << 32, 1<<32 + 5, -1 << 32, 1 << 62, math.MaxInt32, math.MinInt32, math.MaxInt, math.MaxInt - 1, math.MinInt, math.MinInt + 1, math.MinInt + 64,
}

// P6.1: all positions of a row.
func TestGet(t *testing.T) {
	for _, r := range rows(128) {
		for x, want := range list(r) {
			if got := Get(r, x); got != want {
				t.Errorf("the pixel %d of %x is %v, want %v", x, r, got, want)
			}
		}
	}
}

// P6.1: the pixels at the edges and at the boundary of the words are these bits.
func TestGetBits(t *testing.T) {
	for _, c := range []struct {
		r Row
		x int
	}{
		{Row{High: 1 << 63}, 0}, {Row{High: 1 << 62}, 1}, {Row{High: 1}, 63},
		{Row{Low: 1 << 63}, 64}, {Row{Low: 1 << 62}, 65}, {Row{Low: 1}, 127},
	} {
		for x := -130; x < 260; x++ {
			if Get(c.r, x) != (x == c.x) {
				t.Errorf("the pixel %d of %x is %v", x, c.r, Get(c.r, x))
			}
		}
		if Set(empty, c.x, true) != c.r {
			t.Errorf("the pixel %d alone is %x, want %x", c.x, Set(empty, c.x, true), c.r)
		}
	}
}

// P6.1: there are no pixels at less than 0 and at more than 127.
func TestOutside(t *testing.T) {
	for _, r := range rows(128) {
		for _, x := range outside {
			if Get(r, x) {
				t.Errorf("the pixel %d of %x is set", x, r)
			}
			for _, on := range []bool{false, true} {
				if got := Set(r, x, on); got != r {
					t.Errorf("Set(%x, %d, %v) is %x", r, x, on, got)
				}
			}
		}
	}
}

// P6.1: Set changes the one pixel, to both values and from both values.
func TestSet(t *testing.T) {
	for _, r := range rows(128) {
		for x := range 128 {
			for _, on := range []bool{false, true} {
				want := list(r)
				want[x] = on
				got := Set(r, x, on)
				if got != want.row() {
					t.Errorf("Set(%x, %d, %v) is %x, want %x", r, x, on, got, want.row())
				}
				if Get(got, x) != on {
					t.Errorf("the pixel %d of Set(%x, %d, %v) is not %v", x, r, x, on, on)
				}
			}
		}
	}
}

// shifted is the model of Shift.
func shifted(r Row, n, width int) Row {
	old := list(r)
	var p pixels
	for x := range width {
		if from := x - n; from >= 0 && from < width {
			p[x] = old[from]
		}
	}
	return p.row()
}

// P6.2: all shifts, for both widths.
func TestShift(t *testing.T) {
	for _, width := range []int{64, 128} {
		for _, r := range rows(width) {
			for n := -128; n <= 128; n++ {
				got, want := Shift(r, n, width), shifted(r, n, width)
				if got != want {
					t.Fatalf("Shift(%x, %d, %d) is %x, want %x", r, n, width, got, want)
				}
			}
		}
	}
}

// P6.2: the edge cases that the chapter names.
func TestShiftEdges(t *testing.T) {
	high, corners := Row{High: math.MaxUint64}, of(0, 63, 64, 127)
	for _, c := range []struct {
		r        Row
		n, width int
		want     Row
	}{
		{corners, 0, 128, corners}, {full, 0, 128, full}, {high, 0, 64, high},
		{corners, 1, 128, of(1, 64, 65)}, {corners, -1, 128, of(62, 63, 126)},
		{of(63), 1, 128, of(64)}, {of(64), -1, 128, of(63)}, {of(63), 1, 64, empty}, {of(0), -1, 64, empty},
		{of(0), 63, 128, of(63)}, {of(0), 64, 128, of(64)}, {of(0), 65, 128, of(65)}, {of(0), 127, 128, of(127)},
		{of(127), -63, 128, of(64)}, {of(127), -64, 128, of(63)}, {of(127), -65, 128, of(62)}, {of(127), -127, 128, of(0)},
		{corners, 64, 128, of(64, 127)}, {corners, -64, 128, of(0, 63)}, {corners, 65, 128, of(65)}, {corners, -65, 128, of(62)},
		{full, 64, 128, Row{Low: math.MaxUint64}}, {full, -64, 128, high}, {full, 100, 128, Row{Low: 1<<28 - 1}},
		{full, 128, 128, empty}, {full, -128, 128, empty}, {full, 127, 128, of(127)}, {full, -127, 128, of(0)},
		// Rows of the width 64 leave it, and nothing comes back.
		{high, 4, 64, Row{High: 1<<60 - 1}}, {high, -4, 64, Row{High: math.MaxUint64 - 15}}, {high, 63, 64, of(63)}, {high, -63, 64, of(0)},
		{high, 64, 64, empty}, {high, -64, 64, empty}, {high, 100, 64, empty}, {high, -100, 64, empty}, {high, 128, 64, empty}, {high, -128, 64, empty},
		{empty, 5, 64, empty}, {empty, -5, 128, empty},
	} {
		if got := Shift(c.r, c.n, c.width); got != c.want {
			t.Errorf("Shift(%x, %d, %d) is %x, want %x", c.r, c.n, c.width, got, c.want)
		}
	}
}

// pattern is the model of Sprite.
func pattern(bits uint16, count, x, width int, clip bool) Row {
	var p pixels
	for i := range count {
		at := x + i
		if at >= width && clip {
			continue
		}
		if at >= width {
			at -= width
		}
		p[at] = bits&(1<<(count-1-i)) != 0
	}
	return p.row()
}

// sprites returns bits of sprites: all and none, each one alone, those at the edges of 8 and 16 bits, and irregular ones.
func sprites() []uint16 {
	list := []uint16{0, 0xFFFF, 0xFF, 0xFF00, 0xFF80, 0x8001, 0x81, 0xC0, 0x180, 0x7FFE, 0x5A, 0xA5A5, 0x1234, 0xFEDC}
	for i := range 16 {
		list = append(list, 1<<i)
	}
	return list
}

// P6.3: both counts and widths, all positions, with and without clipping.
func TestSprite(t *testing.T) {
	for _, bits := range sprites() {
		for _, count := range []int{8, 16} {
			for _, width := range []int{64, 128} {
				for x := range width {
					for _, clip := range []bool{false, true} {
						got, want := Sprite(bits, count, x, width, clip), pattern(bits, count, x, width, clip)
						if got != want {
							t.Fatalf("Sprite(%x, %d, %d, %d, %v) is %x, want %x", bits, count, x, width, clip, got, want)
						}
					}
				}
			}
		}
	}
}

// P6.3: sprites at the right edge and at the boundary of the words.
func TestSpriteEdges(t *testing.T) {
	for _, c := range []struct {
		bits            uint16
		count, x, width int
		clip            bool
		want            Row
	}{
		{0x81, 8, 56, 64, false, of(56, 63)}, {0x81, 8, 56, 64, true, of(56, 63)},
		{0x81, 8, 57, 64, false, of(57, 0)}, {0x81, 8, 57, 64, true, of(57)}, {0x81, 8, 57, 128, true, of(57, 64)},
		{0x81, 8, 120, 128, true, of(120, 127)}, {0x81, 8, 121, 128, false, of(121, 0)}, {0x81, 8, 121, 128, true, of(121)},
		{0x8001, 16, 48, 64, true, of(48, 63)}, {0x8001, 16, 49, 64, false, of(49, 0)}, {0x8001, 16, 49, 64, true, of(49)},
		{0x8001, 16, 63, 64, false, of(63, 14)}, {0x8001, 16, 63, 64, true, of(63)}, {0x8001, 16, 63, 128, true, of(63, 78)},
		{0x8001, 16, 112, 128, true, of(112, 127)}, {0x8001, 16, 113, 128, false, of(113, 0)}, {0x8001, 16, 127, 128, false, of(127, 14)}, {0x8001, 16, 127, 128, true, of(127)},
		// With the count 8, the upper bits are no pixels.
		{0xFF00, 8, 0, 64, false, empty}, {0xFF01, 8, 0, 64, false, of(7)}, {0xFF00, 8, 63, 64, false, empty}, {0xFF00, 8, 20, 128, true, empty},
		{0x80, 16, 0, 64, false, of(8)}, {0, 16, 127, 128, false, empty},
		{0xFFFF, 16, 0, 64, true, Row{High: 0xFFFF << 48}}, {0xFFFF, 16, 64, 128, true, Row{Low: 0xFFFF << 48}},
	} {
		if got := Sprite(c.bits, c.count, c.x, c.width, c.clip); got != c.want {
			t.Errorf("Sprite(%x, %d, %d, %d, %v) is %x, want %x", c.bits, c.count, c.x, c.width, c.clip, got, c.want)
		}
	}
}

// P6.3: the chapter's examples.
func TestSpriteExamples(t *testing.T) {
	for _, clip := range []bool{false, true} {
		if got := Sprite(0x80, 8, 63, 64, clip); got != of(63) {
			t.Errorf("the pattern of 0x80 with clip %v is %x", clip, got)
		}
	}
	if got := Sprite(0xC0, 8, 63, 64, false); got != of(63, 0) {
		t.Errorf("the pattern of 0xC0 is %x", got)
	}
	if got := Sprite(0xC0, 8, 63, 64, true); got != of(63) {
		t.Errorf("the clipped pattern of 0xC0 is %x", got)
	}
}

// P6.4: pairs of rows, pixel by pixel.
func TestCombine(t *testing.T) {
	all := rows(128)
	for _, a := range all {
		for _, b := range all {
			var xor, and pixels
			listA, listB := list(a), list(b)
			for x := range 128 {
				xor[x] = listA[x] != listB[x]
				and[x] = listA[x] && listB[x]
			}
			if got := Xor(a, b); got != xor.row() {
				t.Fatalf("Xor(%x, %x) is %x, want %x", a, b, got, xor.row())
			}
			if got := And(a, b); got != and.row() {
				t.Fatalf("And(%x, %x) is %x, want %x", a, b, got, and.row())
			}
		}
	}
}

// P6.4: Empty and Count, for the empty and the full row and all others.
func TestCount(t *testing.T) {
	for _, r := range rows(128) {
		n := 0
		for _, on := range list(r) {
			if on {
				n++
			}
		}
		if Count(r) != n || Empty(r) != (n == 0) {
			t.Errorf("%x: Count %d, Empty %v, want %d", r, Count(r), Empty(r), n)
		}
	}
	if Count(empty) != 0 || !Empty(empty) || Count(full) != 128 || Empty(full) {
		t.Error("the empty or the full row")
	}
}

// P1: the functions end without a panic for arguments about which the chapter promises nothing, too.
func TestOddArguments(t *testing.T) {
	numbers := append([]int{0, 1, 7, 8, 16, 63, 64, 65, 100, 127}, outside...)
	call := func(what string, f func()) {
		defer func() {
			if e := recover(); e != nil {
				t.Errorf("%s: %v", what, e)
			}
		}()
		f()
	}
	for _, a := range numbers {
		for _, b := range numbers {
			call(fmt.Sprint("Shift ", a, b), func() { Shift(full, a, b) })
			for _, c := range numbers {
				call(fmt.Sprint("Sprite ", a, b, c), func() { Sprite(0xFFFF, a, b, c, false); Sprite(0xFFFF, a, b, c, true) })
			}
		}
	}
}
