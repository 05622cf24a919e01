package plane

import (
	"fmt"
	"math"
	"slices"
	"testing"
)

// pixels is a plane as a table, indexed by y and x, and the model of all tests: it is made without the functions of the program.
type pixels [64][128]bool

// table returns the pixels of a plane, as the chapters number them.
func table(p Plane) *pixels {
	var t pixels
	for y, r := range p.Rows {
		for x := range 64 {
			t[y][x] = r.High&(1<<(63-x)) != 0
			t[y][x+64] = r.Low&(1<<(63-x)) != 0
		}
	}
	return &t
}

// plane returns the plane with the pixels of the table.
func (t *pixels) plane() Plane {
	var p Plane
	for y := range t {
		for x := range 64 {
			if t[y][x] {
				p.Rows[y].High += 1 << (63 - x)
			}
			if t[y][x+64] {
				p.Rows[y].Low += 1 << (63 - x)
			}
		}
	}
	return p
}

// point is the position of a pixel.
type point struct{ x, y int }

// of returns the plane with the listed pixels.
func of(list ...point) Plane {
	var t pixels
	for _, q := range list {
		t[q.y][q.x] = true
	}
	return t.plane()
}

// area returns the plane in which all pixels with x from x0 to x1 - 1 and y from y0 to y1 - 1 are set.
func area(x0, y0, x1, y1 int) Plane {
	var t pixels
	for y := y0; y < y1; y++ {
		for x := x0; x < x1; x++ {
			t[y][x] = true
		}
	}
	return t.plane()
}

// show lists the pixels of a plane.
func show(p Plane) string {
	var list []point
	for y, line := range table(p) {
		for x, on := range line {
			if on {
				list = append(list, point{x, y})
			}
		}
	}
	if len(list) > 40 {
		return fmt.Sprintf("%d pixels: %v ..", len(list), list[:40])
	}
	return fmt.Sprint(list)
}

// size returns the width and the height that the chapter names.
func size(hires bool) (width, height int) {
	if hires {
		return 128, 64
	}
	return 64, 32
}

var resolutions = []bool{false, true}

// words returns a function that returns irregular words, which are the same in each run.
func words(seed uint64) func() uint64 {
	return func() uint64 {
		seed = seed*6364136223846793005 + 1442695040888963407
		return seed ^ seed>>29
	}
}

// irregular returns a plane of a resolution with about half of its pixels.
func irregular(seed uint64, hires bool) Plane {
	width, height := size(hires)
	next := words(seed)
	var p Plane
	for y := range height {
		p.Rows[y].High = next()
		if width == 128 {
			p.Rows[y].Low = next()
		}
	}
	return p
}

// planes returns planes of a resolution: the empty and the full one, single pixels in the corners and in the middle, the border, a diagonal, and irregular ones.
func planes(hires bool) []Plane {
	width, height := size(hires)
	right, low := width-1, height-1
	corners := []point{{0, 0}, {right, 0}, {0, low}, {right, low}}
	list := []Plane{{}, area(0, 0, width, height), of(corners...)}
	for _, q := range append(corners, point{width / 2, height / 2}, point{width/2 - 1, height/2 - 1}) {
		list = append(list, of(q))
	}
	var border, diagonal pixels
	for y := range height {
		for x := range width {
			border[y][x] = x == 0 || y == 0 || x == right || y == low
			diagonal[y][x] = x == y*2
		}
	}
	list = append(list, border.plane(), diagonal.plane())
	for seed := range uint64(3) {
		list = append(list, irregular(seed, hires))
	}
	return list
}

// mixed returns planes of both resolutions, and planes that are of none: they have pixels in the first 32 rows beyond 63, or below 31 in the first 64 pixels.
func mixed() []Plane {
	list := append(planes(false), planes(true)...)
	return append(list, area(64, 0, 128, 32), area(0, 32, 64, 64), of(point{64, 0}), of(point{0, 32}), of(point{127, 31}, point{63, 63}))
}

// outside holds numbers that are no positions in any plane.
var outside = []int{
	-1, -2, -31, -32, -63, -64, -65, -127, -128, -129, -256, 128, 129, 191, 192, 255, 256, 65536,
	1 << 32, 1<<32 + 5, -1 << 32, 1 << 62, math.MaxInt32, math.MinInt32, math.MaxInt, math.MaxInt - 1, math.MinInt, math.MinInt + 1, math.MinInt + 64,
}

// P7.1: both resolutions.
func TestSize(t *testing.T) {
	for _, hires := range resolutions {
		width, height := Size(hires)
		wantWidth, wantHeight := size(hires)
		if width != wantWidth || height != wantHeight {
			t.Errorf("Size(%v) is %d, %d", hires, width, height)
		}
	}
}

// P7.1: all positions, on planes of both resolutions and of none.
func TestPixel(t *testing.T) {
	for _, p := range mixed() {
		for y, line := range table(p) {
			for x, want := range line {
				if got := Pixel(p, x, y); got != want {
					t.Fatalf("the pixel (%d, %d) of %s is %v", x, y, show(p), got)
				}
			}
		}
	}
}

// P7.1: x counts from the left and y from the top, and they are not exchanged.
func TestPixelOrder(t *testing.T) {
	var p Plane
	p.Rows[3].High, p.Rows[50].Low = 1<<63, 1
	for y := range 64 {
		for x := range 128 {
			if want := x == 0 && y == 3 || x == 127 && y == 50; Pixel(p, x, y) != want {
				t.Errorf("the pixel (%d, %d) is %v", x, y, !want)
			}
		}
	}
}

// P7.1: there are no pixels outside of the 64 rows of 128 pixels.
func TestPixelOutside(t *testing.T) {
	full := area(0, 0, 128, 64)
	for _, a := range outside {
		for b := range 128 {
			if Pixel(full, a, b) || Pixel(full, b, a) {
				t.Errorf("the pixel (%d, %d) or (%d, %d) is set", a, b, b, a)
			}
		}
		for _, b := range outside {
			if Pixel(full, a, b) {
				t.Errorf("the pixel (%d, %d) is set", a, b)
			}
		}
	}
	// The rows end at 63, although the positions in a row do not.
	for y := 64; y < 200; y++ {
		for x := range 128 {
			if Pixel(full, x, y) {
				t.Errorf("the pixel (%d, %d) is set", x, y)
			}
		}
	}
}

// P7.1: planes of both resolutions and of none.
func TestCount(t *testing.T) {
	for _, p := range mixed() {
		want := 0
		for _, line := range table(p) {
			for _, on := range line {
				if on {
					want++
				}
			}
		}
		if got := Count(p); got != want {
			t.Errorf("Count is %d, want %d, for %s", got, want, show(p))
		}
	}
	for _, c := range []struct {
		p    Plane
		want int
	}{
		{Plane{}, 0}, {area(0, 0, 64, 32), 2048}, {area(0, 0, 128, 64), 8192}, {area(64, 0, 128, 64), 4096}, {of(point{127, 63}), 1}, {of(point{0, 0}), 1},
	} {
		if got := Count(c.p); got != c.want {
			t.Errorf("Count is %d, want %d", got, c.want)
		}
	}
}

// scrolled is the model of Scroll.
func scrolled(p Plane, dx, dy int, hires bool) Plane {
	width, height := size(hires)
	old := table(p)
	var t pixels
	for y := range height {
		for x := range width {
			if toX, toY := x+dx, y+dy; toX >= 0 && toX < width && toY >= 0 && toY < height {
				t[toY][toX] = old[y][x]
			}
		}
	}
	return t.plane()
}

// P7.2: all vectors, for irregular planes of both resolutions.
func TestScroll(t *testing.T) {
	for _, hires := range resolutions {
		p := irregular(9, hires)
		for dx := -128; dx <= 128; dx++ {
			for dy := -64; dy <= 64; dy++ {
				if got, want := Scroll(p, dx, dy, hires), scrolled(p, dx, dy, hires); got != want {
					t.Fatalf("Scroll by (%d, %d), %v, is %s, want %s", dx, dy, hires, show(got), show(want))
				}
			}
		}
	}
}

// P7.2: vectors that are nothing, little, around the sizes of both resolutions, and the greatest ones.
func TestScrollPlanes(t *testing.T) {
	across := []int{-128, -127, -65, -64, -63, -32, -4, -1, 0, 1, 4, 32, 63, 64, 65, 127, 128}
	down := []int{-64, -63, -33, -32, -31, -15, -1, 0, 1, 15, 31, 32, 33, 63, 64}
	for _, hires := range resolutions {
		for _, p := range planes(hires) {
			for _, dx := range across {
				for _, dy := range down {
					if got, want := Scroll(p, dx, dy, hires), scrolled(p, dx, dy, hires); got != want {
						t.Fatalf("%s, scrolled by (%d, %d), %v, is %s, want %s", show(p), dx, dy, hires, show(got), show(want))
					}
				}
			}
		}
	}
}

// P7.2: the edge cases that the chapter names, without the model.
func TestScrollEdges(t *testing.T) {
	lowFull, highFull := area(0, 0, 64, 32), area(0, 0, 128, 64)
	for _, c := range []struct {
		p      Plane
		dx, dy int
		hires  bool
		want   Plane
	}{
		{lowFull, 0, 0, false, lowFull}, {highFull, 0, 0, true, highFull}, {Plane{}, 4, -4, true, Plane{}}, {Plane{}, 0, 0, false, Plane{}},
		// One direction.
		{lowFull, 4, 0, false, area(4, 0, 64, 32)}, {lowFull, -4, 0, false, area(0, 0, 60, 32)},
		{lowFull, 0, 5, false, area(0, 5, 64, 32)}, {lowFull, 0, -5, false, area(0, 0, 64, 27)},
		{highFull, 4, 0, true, area(4, 0, 128, 64)}, {highFull, -4, 0, true, area(0, 0, 124, 64)},
		{highFull, 0, 15, true, area(0, 15, 128, 64)}, {highFull, 0, -15, true, area(0, 0, 128, 49)},
		// Both at once.
		{lowFull, 3, 7, false, area(3, 7, 64, 32)}, {lowFull, -3, -7, false, area(0, 0, 61, 25)}, {lowFull, 3, -7, false, area(3, 0, 64, 25)},
		{highFull, -70, 40, true, area(0, 40, 58, 64)}, {highFull, 70, 40, true, area(70, 40, 128, 64)}, {of(point{10, 20}), 60, -7, true, of(point{70, 13})},
		// The last pixel that remains, by the width and the height, and by more.
		{lowFull, 63, 31, false, of(point{63, 31})}, {lowFull, -63, -31, false, of(point{0, 0})}, {highFull, 127, 63, true, of(point{127, 63})}, {highFull, -127, -63, true, of(point{0, 0})},
		{lowFull, 64, 0, false, Plane{}}, {lowFull, -64, 0, false, Plane{}}, {lowFull, 0, 32, false, Plane{}}, {lowFull, 0, -32, false, Plane{}},
		{lowFull, 65, 0, false, Plane{}}, {lowFull, 0, 33, false, Plane{}}, {lowFull, -100, 0, false, Plane{}}, {lowFull, 0, -50, false, Plane{}},
		{lowFull, 128, 0, false, Plane{}}, {lowFull, -128, 0, false, Plane{}}, {lowFull, 0, 64, false, Plane{}}, {lowFull, 0, -64, false, Plane{}}, {lowFull, 128, 64, false, Plane{}},
		{highFull, 128, 0, true, Plane{}}, {highFull, -128, 0, true, Plane{}}, {highFull, 0, 64, true, Plane{}}, {highFull, 0, -64, true, Plane{}}, {highFull, -128, -64, true, Plane{}},
		{highFull, 64, 32, true, area(64, 32, 128, 64)}, {highFull, -64, -32, true, area(0, 0, 64, 32)},
		// What would leave the area of the low resolution does not appear in the rest of the plane.
		{of(point{63, 31}), 1, 0, false, Plane{}}, {of(point{63, 31}), 0, 1, false, Plane{}}, {of(point{63, 31}), 1, 0, true, of(point{64, 31})}, {of(point{63, 31}), 0, 1, true, of(point{63, 32})},
		{of(point{0, 0}), -1, 0, false, Plane{}}, {of(point{0, 0}), 0, -1, false, Plane{}},
	} {
		if got := Scroll(c.p, c.dx, c.dy, c.hires); got != c.want {
			t.Errorf("Scroll by (%d, %d), %v, is %s, want %s", c.dx, c.dy, c.hires, show(got), show(c.want))
		}
	}
}

// pattern is the model of Sprite.
func pattern(bits []uint16, count, x, y int, hires, clip bool) Plane {
	width, height := size(hires)
	var t pixels
	for i, b := range bits {
		for j := range count {
			atX, atY := x+j, y+i
			if clip && (atX >= width || atY >= height) {
				continue
			}
			t[atY%height][atX%width] = b>>(count-1-j)%2 == 1
		}
	}
	return t.plane()
}

// sprites returns sprites without rows, with one row, with some, and with 16, which are full, irregular or empty.
func sprites() [][]uint16 {
	next := words(5)
	list := [][]uint16{nil, {}, {0x80}, {0xFFFF}, {0x8001}, {0}, {0x81, 0x01, 0x80}, {0xFFFF, 0, 0xA5A5, 0x3C}, slices.Repeat([]uint16{0xFFFF}, 16), slices.Repeat([]uint16{0}, 16)}
	for _, n := range []int{5, 8, 15, 16} {
		var bits []uint16
		for range n {
			bits = append(bits, uint16(next()))
		}
		list = append(list, bits)
	}
	return list
}

// positions returns x and y of sprites: the corners of a resolution, its middle, and all positions from which 16 bits or rows reach its edges.
func positions(hires bool) (list []point) {
	width, height := size(hires)
	edge := func(n int) []int {
		list := []int{0, 1, n/2 - 8, n/2 - 1, n / 2}
		for i := n - 17; i < n; i++ {
			list = append(list, i)
		}
		return list
	}
	for _, x := range edge(width) {
		for _, y := range edge(height) {
			list = append(list, point{x, y})
		}
	}
	return list
}

// P7.3: both resolutions and counts, with and without clipping, at the edges.
func TestSprite(t *testing.T) {
	for _, hires := range resolutions {
		for _, q := range positions(hires) {
			for _, bits := range sprites() {
				for _, count := range []int{8, 16} {
					for _, clip := range []bool{false, true} {
						got, want := Sprite(bits, count, q.x, q.y, hires, clip), pattern(bits, count, q.x, q.y, hires, clip)
						if got != want {
							t.Fatalf("Sprite(%x, %d, %d, %d, %v, %v) is %s, want %s", bits, count, q.x, q.y, hires, clip, show(got), show(want))
						}
					}
				}
			}
		}
	}
}

// P7.3: all positions.
func TestSpritePositions(t *testing.T) {
	bits := []uint16{0xC1A7, 0x0001, 0xFF80}
	for _, hires := range resolutions {
		width, height := size(hires)
		for y := range height {
			for x := range width {
				for _, clip := range []bool{false, true} {
					got, want := Sprite(bits, 16, x, y, hires, clip), pattern(bits, 16, x, y, hires, clip)
					if got != want {
						t.Fatalf("Sprite(%x, 16, %d, %d, %v, %v) is %s, want %s", bits, x, y, hires, clip, show(got), show(want))
					}
				}
			}
		}
	}
}

// P7.3: the edge cases that the chapter names, without the model.
func TestSpriteEdges(t *testing.T) {
	two, big := []uint16{0x81, 0x81}, []uint16{0x8001, 0x8001}
	full := slices.Repeat([]uint16{0xFFFF}, 16)
	for _, c := range []struct {
		bits        []uint16
		count, x, y int
		hires, clip bool
		want        Plane
	}{
		{two, 8, 10, 20, false, false, of(point{10, 20}, point{17, 20}, point{10, 21}, point{17, 21})},
		{big, 16, 10, 20, true, true, of(point{10, 20}, point{25, 20}, point{10, 21}, point{25, 21})},
		{[]uint16{0x80, 0x01}, 8, 0, 0, false, false, of(point{0, 0}, point{7, 1})},
		// At the right edge.
		{two, 8, 56, 0, false, true, of(point{56, 0}, point{63, 0}, point{56, 1}, point{63, 1})},
		{two, 8, 57, 0, false, false, of(point{57, 0}, point{0, 0}, point{57, 1}, point{0, 1})}, {two, 8, 57, 0, false, true, of(point{57, 0}, point{57, 1})},
		{two, 8, 57, 0, true, true, of(point{57, 0}, point{64, 0}, point{57, 1}, point{64, 1})},
		{big, 16, 127, 9, true, false, of(point{127, 9}, point{14, 9}, point{127, 10}, point{14, 10})}, {big, 16, 127, 9, true, true, of(point{127, 9}, point{127, 10})},
		// At the lower edge.
		{two, 8, 0, 30, false, true, of(point{0, 30}, point{7, 30}, point{0, 31}, point{7, 31})},
		{two, 8, 0, 31, false, false, of(point{0, 31}, point{7, 31}, point{0, 0}, point{7, 0})}, {two, 8, 0, 31, false, true, of(point{0, 31}, point{7, 31})},
		{two, 8, 0, 31, true, true, of(point{0, 31}, point{7, 31}, point{0, 32}, point{7, 32})},
		{big, 16, 0, 63, true, false, of(point{0, 63}, point{15, 63}, point{0, 0}, point{15, 0})}, {big, 16, 0, 63, true, true, of(point{0, 63}, point{15, 63})},
		// In the corner.
		{two, 8, 63, 31, false, false, of(point{63, 31}, point{6, 31}, point{63, 0}, point{6, 0})}, {two, 8, 63, 31, false, true, of(point{63, 31})},
		{big, 16, 63, 31, false, false, of(point{63, 31}, point{14, 31}, point{63, 0}, point{14, 0})}, {big, 16, 63, 31, false, true, of(point{63, 31})},
		{two, 8, 127, 63, true, false, of(point{127, 63}, point{6, 63}, point{127, 0}, point{6, 0})}, {two, 8, 127, 63, true, true, of(point{127, 63})},
		{big, 16, 127, 63, true, false, of(point{127, 63}, point{14, 63}, point{127, 0}, point{14, 0})}, {big, 16, 127, 63, true, true, of(point{127, 63})},
		// Without rows, and with 16.
		{nil, 8, 63, 31, false, false, Plane{}}, {[]uint16{}, 16, 0, 0, true, true, Plane{}},
		{full, 16, 48, 16, false, true, area(48, 16, 64, 32)}, {full, 8, 56, 16, false, true, area(56, 16, 64, 32)}, {full, 16, 112, 48, true, false, area(112, 48, 128, 64)},
		{full, 16, 49, 17, false, true, area(49, 17, 64, 32)}, {full, 8, 0, 17, false, true, area(0, 17, 8, 32)}, {full, 16, 127, 63, true, true, of(point{127, 63})},
	} {
		if got := Sprite(c.bits, c.count, c.x, c.y, c.hires, c.clip); got != c.want {
			t.Errorf("Sprite(%x, %d, %d, %d, %v, %v) is %s, want %s", c.bits, c.count, c.x, c.y, c.hires, c.clip, show(got), show(c.want))
		}
	}
}

// P7.3: the list of rows is neither modified nor kept, and what lies behind its end is no part of it.
func TestSpriteArgument(t *testing.T) {
	all := []uint16{0x80, 0x40, 0xFF, 0xFF}
	p := Sprite(all[:2], 8, 0, 0, false, false)
	if !slices.Equal(all, []uint16{0x80, 0x40, 0xFF, 0xFF}) {
		t.Errorf("the rows are %x now", all)
	}
	all[0] = 0
	if want := of(point{0, 0}, point{1, 1}); p != want {
		t.Errorf("the pattern is %s, want %s", show(p), show(want))
	}
}

// P7.4: pairs of planes of both resolutions and of none, pixel by pixel.
func TestDraw(t *testing.T) {
	all := mixed()
	for _, a := range all {
		for _, b := range all {
			tableA, tableB := table(a), table(b)
			var want pixels
			wantHit := false
			for y := range want {
				for x := range want[y] {
					want[y][x] = tableA[y][x] != tableB[y][x]
					wantHit = wantHit || tableA[y][x] && tableB[y][x]
				}
			}
			if got, hit := Draw(a, b); got != want.plane() || hit != wantHit {
				t.Fatalf("%s on %s is %s, %v", show(b), show(a), show(got), hit)
			}
		}
	}
}

// P7.4: a single common pixel is a collision wherever it is, and its neighbours are none.
func TestDrawHit(t *testing.T) {
	full := area(0, 0, 128, 64)
	for y := range 64 {
		for x := range 128 {
			var one, rest Plane
			if x < 64 {
				one.Rows[y].High = 1 << (63 - x)
			} else {
				one.Rows[y].Low = 1 << (127 - x)
			}
			rest = full
			rest.Rows[y].High -= one.Rows[y].High
			rest.Rows[y].Low -= one.Rows[y].Low
			if got, hit := Draw(full, one); got != rest || !hit {
				t.Fatalf("the pixel (%d, %d) on the full plane: %d pixels, %v", x, y, Count(got), hit)
			}
			if got, hit := Draw(rest, one); got != full || hit {
				t.Fatalf("the pixel (%d, %d) on the rest: %d pixels, %v", x, y, Count(got), hit)
			}
		}
	}
}

// plus returns the plane with the pixels of planes that have none in common.
func plus(list ...Plane) Plane {
	var sum Plane
	for _, p := range list {
		for y, r := range p.Rows {
			sum.Rows[y].High += r.High
			sum.Rows[y].Low += r.Low
		}
	}
	return sum
}

// P7.4: with and without common pixels, without the model.
func TestDrawEdges(t *testing.T) {
	full := area(0, 0, 128, 64)
	for _, c := range []struct {
		p, sprite, want Plane
		hit             bool
	}{
		{Plane{}, Plane{}, Plane{}, false}, {full, Plane{}, full, false}, {Plane{}, full, full, false}, {full, full, Plane{}, true},
		{of(point{5, 5}), of(point{6, 5}), of(point{5, 5}, point{6, 5}), false}, {of(point{5, 5}), of(point{5, 6}), of(point{5, 5}, point{5, 6}), false},
		{of(point{5, 5}), of(point{5, 5}, point{6, 5}), of(point{6, 5}), true}, {of(point{5, 5}), of(point{69, 5}), of(point{5, 5}, point{69, 5}), false},
		{area(0, 0, 32, 16), area(16, 0, 48, 16), plus(area(0, 0, 16, 16), area(32, 0, 48, 16)), true}, {area(0, 0, 32, 16), area(0, 8, 32, 24), plus(area(0, 0, 32, 8), area(0, 16, 32, 24)), true},
		// Planes that are not of the low resolution, or of none.
		{area(32, 0, 96, 64), area(64, 0, 128, 64), plus(area(32, 0, 64, 64), area(96, 0, 128, 64)), true}, {area(0, 16, 128, 48), area(0, 32, 128, 64), plus(area(0, 16, 128, 32), area(0, 48, 128, 64)), true},
		{area(64, 0, 128, 32), area(0, 32, 64, 64), plus(area(64, 0, 128, 32), area(0, 32, 64, 64)), false}, {area(0, 32, 128, 64), area(0, 0, 128, 32), full, false},
		{of(point{127, 63}), of(point{127, 63}), Plane{}, true}, {of(point{64, 0}), of(point{64, 0}, point{0, 32}), of(point{0, 32}), true},
	} {
		if got, hit := Draw(c.p, c.sprite); got != c.want || hit != c.hit {
			t.Errorf("%s on %s is %s, %v", show(c.sprite), show(c.p), show(got), hit)
		}
	}
}

// P7.5: the same pattern, drawn twice on planes of both resolutions and of none.
func TestDrawTwice(t *testing.T) {
	for _, hires := range resolutions {
		width, height := size(hires)
		for _, p := range mixed() {
			for _, bits := range sprites() {
				for _, q := range []point{{0, 0}, {width - 1, height - 1}, {width - 5, 3}, {7, height - 2}, {width / 2, height / 2}} {
					for _, clip := range []bool{false, true} {
						sprite := Sprite(bits, 16, q.x, q.y, hires, clip)
						once, _ := Draw(p, sprite)
						if got, _ := Draw(once, sprite); got != p {
							t.Fatalf("%x at %v, twice on %s, is %s", bits, q, show(p), show(got))
						}
						if once == p && Count(sprite) > 0 {
							t.Fatalf("%x at %v changes nothing on %s", bits, q, show(p))
						}
					}
				}
			}
		}
	}
}

// P7.3, P7.4, P7.5: the chapter's example.
func TestExample(t *testing.T) {
	for _, clip := range []bool{false, true} {
		sprite := Sprite([]uint16{0x80}, 8, 63, 31, false, clip)
		p, hit := Draw(Plane{}, sprite)
		if p != of(point{63, 31}) || Count(p) != 1 || !Pixel(p, 63, 31) || hit {
			t.Errorf("drawn once: %s, %v", show(p), hit)
		}
		p, hit = Draw(p, sprite)
		if p != (Plane{}) || Count(p) != 0 || Pixel(p, 63, 31) || !hit {
			t.Errorf("drawn twice: %s, %v", show(p), hit)
		}
	}
}

// P1: the functions end without a panic for arguments about which the chapter promises nothing, too.
func TestOddArguments(t *testing.T) {
	call := func(what string, f func()) {
		defer func() {
			if e := recover(); e != nil {
				t.Errorf("%s: %v", what, e)
			}
		}()
		f()
	}
	full, many := area(0, 0, 128, 64), slices.Repeat([]uint16{0xFFFF}, 300)
	numbers := append([]int{0, 1, 7, 8, 16, 31, 32, 63, 64, 65, 127}, outside...)
	for _, a := range numbers {
		for _, b := range numbers {
			for _, hires := range resolutions {
				call(fmt.Sprint("Scroll ", a, b, hires), func() { Scroll(full, a, b, hires) })
				for _, count := range []int{-1, 0, 1, 8, 16, 17, 64, 65, math.MaxInt, math.MinInt} {
					call(fmt.Sprint("Sprite ", count, a, b, hires), func() { Sprite(many, count, a, b, hires, false); Sprite(many, count, a, b, hires, true) })
				}
			}
		}
	}
}
