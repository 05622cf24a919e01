package screen

import (
	"bytes"
	"fmt"
	"math"
	"testing"

	"cosmac/plane"
)

// The models of all tests change and read pixels by these functions, without those of the program.

// word returns the word of a plane with the pixel (x, y), and the bit of the pixel.
func word(p *plane.Plane, x, y int) (*uint64, uint64) {
	if x < 64 {
		return &p.Rows[y].High, 1 << (63 - x)
	}
	return &p.Rows[y].Low, 1 << (127 - x)
}

// get reports whether a pixel is set.
func get(p *plane.Plane, x, y int) bool {
	w, bit := word(p, x, y)
	return *w&bit != 0
}

// flip changes a pixel, and reports whether it was set.
func flip(p *plane.Plane, x, y int) bool {
	w, bit := word(p, x, y)
	was := *w&bit != 0
	*w ^= bit
	return was
}

// point is the position of a pixel.
type point struct{ x, y int }

// of returns the plane with the listed pixels.
func of(list ...point) plane.Plane {
	var p plane.Plane
	for _, q := range list {
		flip(&p, q.x, q.y)
	}
	return p
}

// area returns the plane in which all pixels with x from x0 to x1 - 1 and y from y0 to y1 - 1 are set.
func area(x0, y0, x1, y1 int) plane.Plane {
	var p plane.Plane
	for y := y0; y < y1; y++ {
		for x := x0; x < x1; x++ {
			flip(&p, x, y)
		}
	}
	return p
}

// size returns the width and the height of a resolution.
func size(hires bool) (width, height int) {
	if hires {
		return 128, 64
	}
	return 64, 32
}

// has reports whether a mask selects a plane.
func has(mask, index int) bool { return mask/[]int{1, 2, 4, 8}[index]%2 == 1 }

var both = []bool{false, true}

// words returns a function that returns irregular words, which are the same in each run.
func words(seed uint64) func() uint64 {
	return func() uint64 {
		seed = seed*6364136223846793005 + 1442695040888963407
		return seed ^ seed>>29
	}
}

// irregular returns a screen with about half of its pixels, which differ on all planes.
func irregular(seed uint64, hires bool, mask int) Screen {
	_, height := size(hires)
	next := words(seed)
	s := Screen{Hires: hires, Mask: mask}
	for i := range s.Planes {
		for y := range height {
			s.Planes[i].Rows[y].High = next()
			if hires {
				s.Planes[i].Rows[y].Low = next()
			}
		}
	}
	return s
}

// full returns a screen with all pixels.
func full(hires bool, mask int) Screen {
	width, height := size(hires)
	s := Screen{Hires: hires, Mask: mask}
	for i := range s.Planes {
		s.Planes[i] = area(0, 0, width, height)
	}
	return s
}

// screens returns the empty and the full screen, irregular ones, and those with one full plane.
func screens(hires bool, mask int) []Screen {
	all, empty := full(hires, mask), Screen{Hires: hires, Mask: mask}
	list := []Screen{empty, all, irregular(1, hires, mask), irregular(2, hires, mask)}
	for i := range all.Planes {
		one := empty
		one.Planes[i] = all.Planes[i]
		list = append(list, one)
	}
	return list
}

// everyScreen calls f with screens of both resolutions and all Masks.
func everyScreen(f func(s Screen)) {
	for _, hires := range both {
		for mask := range 16 {
			for _, s := range screens(hires, mask) {
				f(s)
			}
		}
	}
}

// show lists the pixels of a screen.
func show(s Screen) string {
	text := fmt.Sprintf("Hires %v, Mask %d", s.Hires, s.Mask)
	for i := range s.Planes {
		var list []point
		for y := range 64 {
			for x := range 128 {
				if get(&s.Planes[i], x, y) {
					list = append(list, point{x, y})
				}
			}
		}
		if len(list) > 20 {
			text += fmt.Sprintf(", plane %d: %d pixels: %v ..", i, len(list), list[:20])
		} else {
			text += fmt.Sprintf(", plane %d: %v", i, list)
		}
	}
	return text
}

// P8.1: the initial screen.
func TestNew(t *testing.T) {
	s := New()
	if s.Hires || s.Mask != 1 {
		t.Errorf("Hires %v, Mask %d", s.Hires, s.Mask)
	}
	for i, p := range s.Planes {
		if p != (plane.Plane{}) {
			t.Errorf("the plane %d has pixels", i)
		}
	}
}

// P8.1: from every Mask to every Mask; all else remains.
func TestSelect(t *testing.T) {
	everyScreen(func(s Screen) {
		for mask := range 16 {
			got := Select(s, mask)
			if got.Mask != mask || got.Hires != s.Hires || got.Planes != s.Planes {
				t.Fatalf("Select(s, %d) is %s, for %s", mask, show(got), show(s))
			}
		}
	})
}

// P8.2: every Mask, both resolutions.
func TestClear(t *testing.T) {
	everyScreen(func(s Screen) {
		want := s
		for i := range want.Planes {
			if has(s.Mask, i) {
				want.Planes[i] = plane.Plane{}
			}
		}
		if got := Clear(s); got != want {
			t.Fatalf("Clear is %s, for %s", show(got), show(s))
		}
	})
}

// P8.2: the edge cases of the Masks, without the model.
func TestClearEdges(t *testing.T) {
	a, b, c, d, none := of(point{1, 1}), of(point{63, 31}), area(0, 0, 64, 32), of(point{0, 0}), plane.Plane{}
	for mask, want := range map[int][4]plane.Plane{
		0: {a, b, c, d}, 1: {none, b, c, d}, 2: {a, none, c, d}, 4: {a, b, none, d}, 5: {none, b, none, d}, 8: {a, b, c, none}, 10: {a, none, c, none}, 15: {},
	} {
		got := Clear(Screen{Planes: [4]plane.Plane{a, b, c, d}, Mask: mask})
		if got != (Screen{Planes: want, Mask: mask}) {
			t.Errorf("Clear with the Mask %d is %s", mask, show(got))
		}
	}
}

// P8.2: from both resolutions to both, the same one too; also the pixels on planes that are not selected are lost, and the Mask remains.
func TestResolution(t *testing.T) {
	everyScreen(func(s Screen) {
		for _, hires := range both {
			if got := Resolution(s, hires); got != (Screen{Hires: hires, Mask: s.Mask}) {
				t.Fatalf("Resolution(s, %v) is %s, for %s", hires, show(got), show(s))
			}
		}
	})
}

// scrolled is the model of Scroll.
func scrolled(s Screen, dx, dy int) Screen {
	width, height := size(s.Hires)
	moved := s
	for i := range s.Planes {
		if !has(s.Mask, i) {
			continue
		}
		moved.Planes[i] = plane.Plane{}
		// Longer vectors move all pixels out of the screen, as these do.
		dx, dy := min(max(dx, -width), width), min(max(dy, -height), height)
		for y := max(0, -dy); y < min(height, height-dy); y++ {
			for x := max(0, -dx); x < min(width, width-dx); x++ {
				if get(&s.Planes[i], x, y) {
					flip(&moved.Planes[i], x+dx, y+dy)
				}
			}
		}
	}
	return moved
}

// vectors holds vectors in all directions, around the sizes of both resolutions, and by more than these.
var vectors = []point{
	{0, 0}, {1, 0}, {-1, 0}, {0, 1}, {0, -1}, {4, 0}, {-4, 0}, {0, 15}, {0, -15}, {3, 7}, {-3, 7}, {3, -7}, {-3, -7},
	{63, 0}, {-63, 0}, {64, 0}, {-64, 0}, {65, 0}, {-65, 0}, {127, 0}, {-127, 0}, {128, 0}, {-128, 0}, {129, 0}, {-129, 0},
	{0, 31}, {0, -31}, {0, 32}, {0, -32}, {0, 33}, {0, -33}, {0, 63}, {0, -63}, {0, 64}, {0, -64}, {0, 65}, {0, -65}, {0, 128}, {0, -128},
	{63, 31}, {-63, -31}, {127, 63}, {-127, -63}, {70, 40}, {-70, -40}, {128, 64}, {-128, -64}, {129, 65}, {-129, -65},
	{192, 0}, {-192, 0}, {256, 0}, {-256, 0}, {0, 96}, {0, -96}, {65536, 0}, {0, -65536}, {1 << 32, 0}, {0, 1 << 32}, {-1 << 32, 0}, {0, -1 << 32},
	{math.MaxInt, 0}, {math.MinInt, 0}, {0, math.MaxInt}, {0, math.MinInt}, {math.MinInt, math.MaxInt}, {math.MaxInt, math.MinInt}, {math.MinInt + 1, 1},
}

// P8.2: every Mask, both resolutions, and all kinds of vectors.
func TestScroll(t *testing.T) {
	for _, hires := range both {
		for mask := range 16 {
			for _, s := range []Screen{irregular(3, hires, mask), full(hires, mask)} {
				for _, v := range vectors {
					if got, want := Scroll(s, v.x, v.y), scrolled(s, v.x, v.y); got != want {
						t.Fatalf("Scroll by %v is %s, want %s", v, show(got), show(want))
					}
				}
			}
		}
	}
}

// P8.2: the edge cases of scrolling, without the model.
func TestScrollEdges(t *testing.T) {
	all, none := area(0, 0, 64, 32), plane.Plane{}
	big := area(0, 0, 128, 64)
	for _, c := range []struct {
		planes [4]plane.Plane
		hires  bool
		mask   int
		v      point
		want   [4]plane.Plane
	}{
		{[4]plane.Plane{all, all, all, all}, false, 0, point{1, 1}, [4]plane.Plane{all, all, all, all}},
		{[4]plane.Plane{all, all, all, all}, false, 1, point{4, 0}, [4]plane.Plane{area(4, 0, 64, 32), all, all, all}},
		{[4]plane.Plane{all, all, all, all}, false, 8, point{-4, 0}, [4]plane.Plane{all, all, all, area(0, 0, 60, 32)}},
		{[4]plane.Plane{all, all, all, all}, false, 6, point{0, 5}, [4]plane.Plane{all, area(0, 5, 64, 32), area(0, 5, 64, 32), all}},
		{[4]plane.Plane{all, none, all, none}, false, 15, point{0, -5}, [4]plane.Plane{area(0, 0, 64, 27), none, area(0, 0, 64, 27), none}},
		{[4]plane.Plane{all, all, all, all}, false, 5, point{0, 32}, [4]plane.Plane{none, all, none, all}},
		{[4]plane.Plane{all, all, all, all}, false, 5, point{0, -33}, [4]plane.Plane{none, all, none, all}},
		{[4]plane.Plane{all, all, all, all}, false, 5, point{64, 0}, [4]plane.Plane{none, all, none, all}},
		{[4]plane.Plane{all, all, all, all}, false, 15, point{63, 31}, [4]plane.Plane{of(point{63, 31}), of(point{63, 31}), of(point{63, 31}), of(point{63, 31})}},
		{[4]plane.Plane{big, big, big, big}, true, 9, point{64, 32}, [4]plane.Plane{area(64, 32, 128, 64), big, big, area(64, 32, 128, 64)}},
		{[4]plane.Plane{big, big, big, big}, true, 9, point{0, 64}, [4]plane.Plane{none, big, big, none}},
		{[4]plane.Plane{big, big, big, big}, true, 9, point{0, -65}, [4]plane.Plane{none, big, big, none}},
		{[4]plane.Plane{big, big, big, big}, true, 9, point{-129, 0}, [4]plane.Plane{none, big, big, none}},
		// What leaves the low resolution does not appear in the rest of the plane.
		{[4]plane.Plane{of(point{63, 31}), of(point{63, 31}), none, none}, false, 2, point{1, 0}, [4]plane.Plane{of(point{63, 31}), none, none, none}},
		{[4]plane.Plane{of(point{63, 31}), of(point{63, 31}), none, none}, true, 2, point{1, 1}, [4]plane.Plane{of(point{63, 31}), of(point{64, 32}), none, none}},
	} {
		got := Scroll(Screen{c.planes, c.hires, c.mask}, c.v.x, c.v.y)
		if want := (Screen{c.want, c.hires, c.mask}); got != want {
			t.Errorf("Scroll by %v with the Mask %d is %s, want %s", c.v, c.mask, show(got), show(want))
		}
	}
}

// count returns the number of planes that a Mask selects.
func count(mask int) int { return []int{0, 1, 1, 2, 1, 2, 2, 3, 1, 2, 2, 3, 2, 3, 3, 4}[mask] }

// P8.3: every Mask and every number of rows, small and big, in both resolutions.
func TestNeed(t *testing.T) {
	everyScreen(func(s Screen) {
		for n := range 16 {
			if got, want := Need(s, n, false), n*count(s.Mask); got != want {
				t.Fatalf("%d rows with the Mask %d need %d bytes, want %d", n, s.Mask, got, want)
			}
			if got, want := Need(s, n, true), 32*count(s.Mask); got != want {
				t.Fatalf("a big sprite with n %d and the Mask %d needs %d bytes, want %d", n, s.Mask, got, want)
			}
		}
	})
}

// P8.3: the chapter's example, and edge cases without the model.
func TestNeedEdges(t *testing.T) {
	for _, c := range []struct {
		mask, n int
		big     bool
		want    int
	}{
		{3, 5, false, 10}, {0, 0, false, 0}, {0, 15, false, 0}, {0, 15, true, 0}, {1, 0, false, 0}, {15, 0, false, 0}, {1, 1, false, 1}, {8, 15, false, 15},
		{15, 15, false, 60}, {1, 0, true, 32}, {8, 15, true, 32}, {10, 7, true, 64}, {15, 0, true, 128}, {15, 15, true, 128},
	} {
		if got := Need(Select(New(), c.mask), c.n, c.big); got != c.want {
			t.Errorf("Need with the Mask %d, n %d, big %v is %d, want %d", c.mask, c.n, c.big, got, c.want)
		}
	}
}

// drawn is the model of Draw: the data is one sequence of bits, from the most significant one of the first byte on.
func drawn(s Screen, x, y, n int, big, clip bool, data []byte) (Screen, bool) {
	width, height := size(s.Hires)
	rows, columns := n, 8
	if big {
		rows, columns = 16, 16
	}
	next, hit := 0, false
	for i := range s.Planes {
		if !has(s.Mask, i) {
			continue
		}
		for j := range rows {
			for k := range columns {
				on := data[next/8]>>(7-next%8)%2 == 1
				next++
				atX, atY := x%width+k, y%height+j
				if on && !(clip && (atX >= width || atY >= height)) && flip(&s.Planes[i], atX%width, atY%height) {
					hit = true
				}
			}
		}
	}
	return s, hit
}

// bytesOf returns irregular data of a sprite.
func bytesOf(seed uint64, n int) []byte {
	next := words(seed)
	var list []byte
	for range n {
		list = append(list, byte(next()>>20))
	}
	return list
}

// need is the model of Need.
func need(mask, n int, big bool) int {
	if big {
		n = 32
	}
	return n * count(mask)
}

// checkDraw compares Draw with its model, with and without clipping.
func checkDraw(t *testing.T, s Screen, x, y, n int, big bool, data []byte) {
	t.Helper()
	for _, clip := range both {
		got, hit := Draw(s, x, y, n, big, clip, data)
		want, wantHit := drawn(s, x, y, n, big, clip, data)
		if got != want || hit != wantHit {
			t.Fatalf("Draw(s, %d, %d, %d, %v, %v, %x) is %s, %v, want %s, %v, for %s", x, y, n, big, clip, data, show(got), hit, show(want), wantHit, show(s))
		}
	}
}

// places returns positions: inside, at the edges, in the corner, and not less than the width and the height.
func places(hires bool) []point {
	width, height := size(hires)
	return []point{
		{0, 0}, {5, 3}, {width/2 - 3, 1}, {width - 8, height - 15}, {width - 7, 2}, {2, height - 1}, {width - 1, height - 1}, {width - 16, height - 16}, {width - 15, height - 15},
		{width, height}, {width + 5, 1}, {6, height + 7}, {2*width - 1, 2*height - 1}, {255, 255},
	}
}

// P8.4: every Mask, every number of rows, small and big, in both resolutions, with and without clipping.
func TestDraw(t *testing.T) {
	everyScreen(func(s Screen) {
		for n := range 16 {
			for _, big := range both {
				data := bytesOf(uint64(n), need(s.Mask, n, big))
				for _, q := range places(s.Hires) {
					checkDraw(t, s, q.x, q.y, n, big, data)
				}
			}
		}
	})
}

// P8.4: all positions, and those to twice the width and the height, are taken modulo these.
func TestDrawPositions(t *testing.T) {
	data := bytesOf(7, 32)
	for _, hires := range both {
		width, height := size(hires)
		s := irregular(4, hires, 4)
		for y := range 2 * height {
			for x := range width {
				checkDraw(t, s, x, y, 3, false, data[:3])
			}
		}
		for x := range 2*width + 1 {
			checkDraw(t, s, x, height-2, 9, true, data)
		}
		for _, q := range []point{{65536, 65535}, {1<<32 + 5, 1 << 33}, {math.MaxInt, math.MaxInt}, {math.MaxInt - 3, 0}, {0, math.MaxInt - 30}, {math.MaxInt32, math.MaxInt32}} {
			checkDraw(t, s, q.x, q.y, 15, false, bytesOf(8, 15))
			checkDraw(t, s, q.x, q.y, 0, true, data)
		}
	}
}

// sprite is a call of Draw, with the planes that it makes of those of a screen.
type sprite struct {
	mask      int
	hires     bool
	x, y, n   int
	big, clip bool
	data      []byte
	want      [4]plane.Plane
}

// bigData returns the data of a big sprite on some planes that has the listed bytes only.
func bigData(planes int, list map[int]byte) []byte {
	data := make([]byte, 32*planes)
	for at, b := range list {
		data[at] = b
	}
	return data
}

// P8.4: the data of a sprite and its position, without the model.
func TestDrawEdges(t *testing.T) {
	none := plane.Plane{}
	corners := []byte{0x81, 0x81}
	bigCorners := bigData(1, map[int]byte{0: 0x80, 1: 0x01, 30: 0x80, 31: 0x01})
	for _, c := range []sprite{
		// No rows, one, and 15.
		{15, false, 0, 0, 0, false, false, nil, [4]plane.Plane{}}, {1, true, 9, 9, 0, false, true, []byte{}, [4]plane.Plane{}},
		{1, false, 0, 0, 1, false, false, []byte{0xFF}, [4]plane.Plane{area(0, 0, 8, 1)}},
		{1, true, 100, 40, 15, false, false, bytes.Repeat([]byte{0xFF}, 15), [4]plane.Plane{area(100, 40, 108, 55)}},
		{0, false, 0, 0, 15, false, false, nil, [4]plane.Plane{}}, {0, false, 0, 0, 0, true, false, nil, [4]plane.Plane{}},
		// The first of the two bytes is the left half of the row.
		{1, false, 0, 0, 0, true, false, bigData(1, map[int]byte{0: 0xFF}), [4]plane.Plane{area(0, 0, 8, 1)}},
		{1, false, 0, 0, 0, true, false, bigData(1, map[int]byte{1: 0xFF}), [4]plane.Plane{area(8, 0, 16, 1)}},
		{1, true, 3, 4, 15, true, false, bigData(1, map[int]byte{0: 0x80, 1: 0x01, 2: 0x40, 31: 0x02}), [4]plane.Plane{of(point{3, 4}, point{18, 4}, point{4, 5}, point{17, 19})}},
		// The data of the planes follow each other, in ascending order.
		{15, false, 0, 0, 1, false, false, []byte{0x80, 0x40, 0x20, 0x10}, [4]plane.Plane{of(point{0, 0}), of(point{1, 0}), of(point{2, 0}), of(point{3, 0})}},
		{10, false, 0, 0, 2, false, false, []byte{0x80, 0x40, 0x20, 0x10}, [4]plane.Plane{none, of(point{0, 0}, point{1, 1}), none, of(point{2, 0}, point{3, 1})}},
		{8, false, 0, 0, 1, false, false, []byte{0x80}, [4]plane.Plane{none, none, none, of(point{0, 0})}},
		{5, true, 0, 0, 0, true, false, bigData(2, map[int]byte{0: 0x80, 31: 0x01, 32: 0x40, 63: 0x02}), [4]plane.Plane{of(point{0, 0}, point{15, 15}), none, of(point{1, 0}, point{14, 15}), none}},
		{15, false, 0, 0, 7, true, false, bigData(4, map[int]byte{0: 0x80, 33: 0x80, 66: 0x80, 99: 0x80}), [4]plane.Plane{of(point{0, 0}), of(point{8, 0}), of(point{0, 1}), of(point{8, 1})}},
		// Positions that are not less than the width and the height; only the pixels beyond the edges are clipped.
		{1, false, 64, 32, 2, false, true, corners, [4]plane.Plane{of(point{0, 0}, point{7, 0}, point{0, 1}, point{7, 1})}},
		{1, true, 64, 32, 2, false, true, corners, [4]plane.Plane{of(point{64, 32}, point{71, 32}, point{64, 33}, point{71, 33})}},
		{1, true, 128, 64, 2, false, true, corners, [4]plane.Plane{of(point{0, 0}, point{7, 0}, point{0, 1}, point{7, 1})}},
		{1, false, 255, 255, 2, false, true, corners, [4]plane.Plane{of(point{63, 31})}}, {1, false, 255, 255, 2, false, false, corners, [4]plane.Plane{of(point{63, 31}, point{6, 31}, point{63, 0}, point{6, 0})}},
		// At the right edge, at the lower edge, and in the corner.
		{1, false, 57, 0, 2, false, false, corners, [4]plane.Plane{of(point{57, 0}, point{0, 0}, point{57, 1}, point{0, 1})}}, {1, false, 57, 0, 2, false, true, corners, [4]plane.Plane{of(point{57, 0}, point{57, 1})}},
		{1, false, 0, 31, 2, false, false, corners, [4]plane.Plane{of(point{0, 31}, point{7, 31}, point{0, 0}, point{7, 0})}}, {1, false, 0, 31, 2, false, true, corners, [4]plane.Plane{of(point{0, 31}, point{7, 31})}},
		{1, false, 63, 31, 2, false, false, corners, [4]plane.Plane{of(point{63, 31}, point{6, 31}, point{63, 0}, point{6, 0})}}, {1, false, 63, 31, 2, false, true, corners, [4]plane.Plane{of(point{63, 31})}},
		{1, true, 113, 0, 0, true, false, bigCorners, [4]plane.Plane{of(point{113, 0}, point{0, 0}, point{113, 15}, point{0, 15})}}, {1, true, 113, 0, 0, true, true, bigCorners, [4]plane.Plane{of(point{113, 0}, point{113, 15})}},
		{1, true, 0, 49, 0, true, false, bigCorners, [4]plane.Plane{of(point{0, 49}, point{15, 49}, point{0, 0}, point{15, 0})}}, {1, true, 0, 49, 0, true, true, bigCorners, [4]plane.Plane{of(point{0, 49}, point{15, 49})}},
		{1, true, 127, 63, 0, true, false, bigCorners, [4]plane.Plane{of(point{127, 63}, point{14, 63}, point{127, 14}, point{14, 14})}}, {1, true, 127, 63, 0, true, true, bigCorners, [4]plane.Plane{of(point{127, 63})}},
	} {
		got, hit := Draw(Screen{Hires: c.hires, Mask: c.mask}, c.x, c.y, c.n, c.big, c.clip, c.data)
		if want := (Screen{c.want, c.hires, c.mask}); got != want || hit {
			t.Errorf("%+v: %s, %v", c, show(got), hit)
		}
	}
}

// P8.4: a collision on any set of planes, with any Mask; it is reported exactly if one of the planes is selected.
func TestDrawCollision(t *testing.T) {
	for _, hires := range both {
		for _, big := range both {
			for mask := range 16 {
				for set := range 16 {
					s, want, data := Screen{Hires: hires, Mask: mask}, Screen{Hires: hires, Mask: mask}, make([]byte, need(mask, 1, big))
					part := len(data) / max(count(mask), 1)
					for at := 0; at < len(data); at += part {
						data[at] = 0x80
					}
					wantHit := false
					for i := range 4 {
						if has(set, i) {
							s.Planes[i] = of(point{9, 9})
						}
						if has(set, i) != has(mask, i) {
							want.Planes[i] = of(point{9, 9})
						}
						wantHit = wantHit || has(set, i) && has(mask, i)
					}
					if got, hit := Draw(s, 9, 9, 1, big, false, data); got != want || hit != wantHit {
						t.Errorf("Hires %v, big %v, Mask %d, pixels on %d: %s, %v", hires, big, mask, set, show(got), hit)
					}
				}
			}
		}
	}
}

// P8.4: the collision is that of the pixels of each plane with the data of the same one, without the model.
func TestDrawCollisionEdges(t *testing.T) {
	at, next := of(point{0, 0}), of(point{1, 0})
	none := plane.Plane{}
	for _, c := range []struct {
		mask         int
		planes, want [4]plane.Plane
		data         []byte
		hit          bool
	}{
		{15, [4]plane.Plane{at, none, none, none}, [4]plane.Plane{none, at, at, at}, []byte{0x80, 0x80, 0x80, 0x80}, true},
		{15, [4]plane.Plane{none, none, none, at}, [4]plane.Plane{at, at, at, none}, []byte{0x80, 0x80, 0x80, 0x80}, true},
		{15, [4]plane.Plane{none, at, none, none}, [4]plane.Plane{at, none, at, at}, []byte{0x80, 0x80, 0x80, 0x80}, true},
		{15, [4]plane.Plane{}, [4]plane.Plane{at, at, at, at}, []byte{0x80, 0x80, 0x80, 0x80}, false},
		{15, [4]plane.Plane{at, at, at, at}, [4]plane.Plane{}, []byte{0x80, 0x80, 0x80, 0x80}, true},
		{15, [4]plane.Plane{at, at, at, at}, [4]plane.Plane{at, at, at, at}, []byte{0, 0, 0, 0}, false},
		{3, [4]plane.Plane{next, at, at, at}, [4]plane.Plane{of(point{0, 0}, point{1, 0}), of(point{0, 0}, point{1, 0}), at, at}, []byte{0x80, 0x40}, false},
		{3, [4]plane.Plane{next, at, at, at}, [4]plane.Plane{none, none, at, at}, []byte{0x40, 0x80}, true},
		{6, [4]plane.Plane{at, none, none, at}, [4]plane.Plane{at, at, at, at}, []byte{0x80, 0x80}, false},
		{0, [4]plane.Plane{at, at, at, at}, [4]plane.Plane{at, at, at, at}, nil, false},
	} {
		got, hit := Draw(Screen{Planes: c.planes, Mask: c.mask}, 0, 0, 1, false, false, c.data)
		if want := (Screen{Planes: c.want, Mask: c.mask}); got != want || hit != c.hit {
			t.Errorf("%x with the Mask %d: %s, %v, want %s", c.data, c.mask, show(got), hit, show(want))
		}
	}
	// Pixels that are clipped do not collide.
	s := Screen{Planes: [4]plane.Plane{of(point{0, 0}, point{0, 31}, point{63, 0})}, Mask: 1}
	for _, clip := range both {
		if _, hit := Draw(s, 63, 31, 2, false, clip, []byte{0x40, 0xC0}); hit == clip {
			t.Errorf("with clip %v, the collision is %v", clip, hit)
		}
	}
}

// P8.4: drawing twice restores the screen, with a collision if the sprite has pixels.
func TestDrawTwice(t *testing.T) {
	everyScreen(func(s Screen) {
		data := bytes.Repeat([]byte{0x3C}, need(s.Mask, 5, false))
		once, _ := Draw(s, 250, 30, 5, false, false, data)
		twice, _ := Draw(once, 250, 30, 5, false, false, data)
		if twice != s || (once == s) != (s.Mask == 0) {
			t.Fatalf("drawn twice: %s, for %s", show(twice), show(s))
		}
	})
	one, hit := Draw(New(), 3, 4, 1, false, false, []byte{0x80})
	two, again := Draw(one, 3, 4, 1, false, false, []byte{0x80})
	if hit || !again || two != New() {
		t.Errorf("%v, %v, %s", hit, again, show(two))
	}
}

// P8.5: all positions of screens of both resolutions, whatever the Mask is.
func TestColor(t *testing.T) {
	everyScreen(func(s Screen) {
		// All positions of all screens would take long; TestColorSets has the other Masks.
		if s.Mask%7 != 0 {
			return
		}
		for y := range 64 {
			for x := range 128 {
				want := 0
				for i, value := range []int{1, 2, 4, 8} {
					if get(&s.Planes[i], x, y) {
						want += value
					}
				}
				if got := Color(s, x, y); got != want {
					t.Fatalf("the color of (%d, %d) is %d, want %d, for %s", x, y, got, want, show(s))
				}
			}
		}
	})
}

// P8.5: every set of planes, and every Mask.
func TestColorSets(t *testing.T) {
	for mask := range 16 {
		for set := range 16 {
			s := Screen{Mask: mask, Hires: true}
			for i := range s.Planes {
				if has(set, i) {
					s.Planes[i] = of(point{100, 50})
				}
			}
			if got := Color(s, 100, 50); got != set {
				t.Errorf("the color is %d, want %d", got, set)
			}
			if got := Color(s, 50, 100) + Color(s, 99, 50) + Color(s, 100, 51) + Color(s, 36, 50); got != 0 {
				t.Errorf("other pixels have the color %d", got)
			}
		}
	}
}

// outside holds numbers that are no positions on any screen.
var outside = []int{
	-1, -2, -63, -64, -65, -128, -129, 128, 129, 255, 256, 65536, 1 << 32, -1 << 32, math.MaxInt32, math.MinInt32, math.MaxInt, math.MinInt, math.MinInt + 64,
}

// P8.5: there are no pixels outside of the planes.
func TestColorOutside(t *testing.T) {
	for _, hires := range both {
		width, height := size(hires)
		s := full(hires, 15)
		zero := func(x, y int) {
			if got := Color(s, x, y); got != 0 {
				t.Fatalf("the color of (%d, %d), Hires %v, is %d", x, y, hires, got)
			}
		}
		for _, a := range outside {
			for b := range 128 {
				zero(a, b)
				zero(b, a)
			}
			for _, b := range outside {
				zero(a, b)
			}
		}
		for y := -1; y < 66; y++ {
			zero(width, y)
			zero(-1, y)
		}
		for x := -1; x < 130; x++ {
			zero(x, height)
			zero(x, -1)
		}
		if Color(s, width-1, height-1) != 15 || Color(s, 0, 0) != 15 {
			t.Error("the corners are not set")
		}
	}
}

// P8.6: neither the screen nor the data is modified, and neither of them is part of the result.
func TestArguments(t *testing.T) {
	for _, hires := range both {
		for mask := range 16 {
			for _, big := range both {
				s, n := irregular(6, hires, mask), need(mask, 5, big)
				copied, data := s, bytesOf(3, n+8)
				before := bytes.Clone(data)
				Select(s, 15-mask)
				Clear(s)
				Resolution(s, !hires)
				Scroll(s, 3, -4)
				Need(s, 5, big)
				Color(s, 3, 4)
				got, _ := Draw(s, 60, 30, 5, big, false, data[:n])
				if s != copied || !bytes.Equal(data, before) {
					t.Fatalf("Mask %d: an argument was modified", mask)
				}
				want := got
				clear(data)
				s.Planes = [4]plane.Plane{}
				if got != want {
					t.Fatalf("Mask %d: the result has changed", mask)
				}
			}
		}
	}
}

// P8.4: what lies behind the data, in its capacity, is not drawn.
func TestDrawCapacity(t *testing.T) {
	data := []byte{0x80, 0x40, 0xFF, 0xFF}
	got, hit := Draw(New(), 0, 0, 2, false, false, data[:2])
	if want := (Screen{Planes: [4]plane.Plane{of(point{0, 0}, point{1, 1})}, Mask: 1}); got != want || hit {
		t.Errorf("%s, %v", show(got), hit)
	}
}

// P1: the functions end without a panic for arguments about which the chapter promises nothing, too.
func TestOddArguments(t *testing.T) {
	call := func(what string, f func()) {
		defer func() {
			if e := recover(); e != nil {
				t.Errorf("%s: %v", what, e)
			}
		}()
		f()
	}
	numbers := append([]int{0, 1, 15, 16, 17, 31, 32, 64, 300}, outside...)
	lists := [][]byte{nil, {}, {0xFF}, {0xFF, 0xFF, 0xFF}, bytes.Repeat([]byte{0xFF}, 33), bytes.Repeat([]byte{0xFF}, 500)}
	for _, hires := range both {
		for _, mask := range append([]int{3, 7, 15}, numbers...) {
			s := Select(full(hires, 0), mask)
			call(fmt.Sprint("Clear ", mask), func() { Clear(s); Resolution(s, !hires); Color(s, 1, 1) })
			for _, n := range numbers {
				call(fmt.Sprint("Scroll ", mask, n), func() { Scroll(s, n, n) })
				call(fmt.Sprint("Need ", mask, n), func() { Need(s, n, false); Need(s, n, true) })
				for _, data := range lists {
					for _, big := range both {
						call(fmt.Sprint("Draw ", mask, n, len(data), big), func() { Draw(s, 1, 1, n, big, false, data); Draw(s, n, n, 5, big, true, data) })
					}
				}
			}
		}
	}
}
