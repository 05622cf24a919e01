package font

import (
	"bytes"
	"encoding/hex"
	"math"
	"strings"
	"testing"
)

// chapter has the chapter's table of glyphs, as it is written there.
const chapter = `
| 0 | F0 90 90 90 F0 | 3C 7E E7 C3 C3 C3 C3 E7 7E 3C |
| 1 | 20 60 20 20 70 | 18 38 58 18 18 18 18 18 18 3C |
| 2 | F0 10 F0 80 F0 | 3E 7F C3 06 0C 18 30 60 FF FF |
| 3 | F0 10 F0 10 F0 | 3C 7E C3 03 0E 0E 03 C3 7E 3C |
| 4 | 90 90 F0 10 10 | 06 0E 1E 36 66 C6 FF FF 06 06 |
| 5 | F0 80 F0 10 F0 | FF FF C0 C0 FC FE 03 C3 7E 3C |
| 6 | F0 80 F0 90 F0 | 3E 7C E0 C0 FC FE C3 C3 7E 3C |
| 7 | F0 10 20 40 40 | FF FF 03 06 0C 18 30 60 60 60 |
| 8 | F0 90 F0 90 F0 | 3C 7E C3 C3 7E 7E C3 C3 7E 3C |
| 9 | F0 90 F0 10 F0 | 3C 7E C3 C3 7F 3F 03 03 3E 7C |
| A | F0 90 F0 90 90 | 7E FF C3 C3 C3 FF FF C3 C3 C3 |
| B | E0 90 E0 90 E0 | FC FC C3 C3 FC FC C3 C3 FC FC |
| C | F0 80 80 80 F0 | 3C FF C3 C0 C0 C0 C0 C3 FF 3C |
| D | E0 90 90 90 E0 | FC FE C3 C3 C3 C3 C3 C3 FE FC |
| E | F0 80 F0 80 F0 | FF FF C0 C0 FF FF C0 C0 FF FF |
| F | F0 80 F0 80 80 | FF FF C0 C0 FF FF C0 C0 C0 C0 |
`

// known is a digit with its glyphs.
type known struct{ small, big []byte }

// digits returns the glyphs of the chapter's table, in the order of its lines.
func digits(t *testing.T) []known {
	t.Helper()
	var list []known
	for _, line := range strings.Split(strings.TrimSpace(chapter), "\n") {
		cells := strings.Split(line, "|")
		list = append(list, known{parse(t, cells[2], 5), parse(t, cells[3], 10)})
	}
	if len(list) != 16 {
		t.Fatalf("the table has %d lines", len(list))
	}
	return list
}

// parse returns the n bytes of a cell.
func parse(t *testing.T, cell string, n int) []byte {
	t.Helper()
	list, err := hex.DecodeString(strings.ReplaceAll(cell, " ", ""))
	if err != nil || len(list) != n {
		t.Fatalf("the cell %q has %d bytes, %v", cell, len(list), err)
	}
	return list
}

// numbers returns numbers that are at least 0 and have the last digit d.
func numbers(d int) []int {
	return []int{d, d + 16, d + 32, d + 0xF0, d + 0x100, d + 0x1230, d + 1<<31, d + math.MaxInt - 15}
}

// negative numbers, of which some have digits that are not 0.
var negative = []int{-1, -2, -5, -15, -16, -17, -31, -32, -256, math.MinInt, math.MinInt + 1, math.MinInt + 15}

// P4.1
func TestFontsHaveAllGlyphs(t *testing.T) {
	var small, big []byte
	for _, k := range digits(t) {
		small = append(small, k.small...)
		big = append(big, k.big...)
	}
	if got := Small(); !bytes.Equal(got, small) {
		t.Errorf("Small() = % X, want % X", got, small)
	}
	if got := Big(); !bytes.Equal(got, big) {
		t.Errorf("Big() = % X, want % X", got, big)
	}
}

// P4.2
func TestAddressesOfGlyphs(t *testing.T) {
	for d := range 16 {
		for _, n := range numbers(d) {
			if got, want := SmallAt(n), 80+5*d; got != want {
				t.Errorf("SmallAt(%#x) = %d, want %d", n, got, want)
			}
			if got, want := BigAt(n), 160+10*d; got != want {
				t.Errorf("BigAt(%#x) = %d, want %d", n, got, want)
			}
		}
	}
}

// P4.2
func TestGlyphs(t *testing.T) {
	for d, k := range digits(t) {
		for _, n := range numbers(d) {
			if got := Glyph(n, false); !bytes.Equal(got, k.small) {
				t.Errorf("Glyph(%#x, false) = % X, want % X", n, got, k.small)
			}
			if got := Glyph(n, true); !bytes.Equal(got, k.big) {
				t.Errorf("Glyph(%#x, true) = % X, want % X", n, got, k.big)
			}
		}
	}
}

// P4.2
func TestNegativeNumbers(t *testing.T) {
	for _, n := range negative {
		if got := SmallAt(n); got != 0 {
			t.Errorf("SmallAt(%d) = %d", n, got)
		}
		if got := BigAt(n); got != 0 {
			t.Errorf("BigAt(%d) = %d", n, got)
		}
		if got := Glyph(n, false); got != nil {
			t.Errorf("Glyph(%d, false) = % X", n, got)
		}
		if got := Glyph(n, true); got != nil {
			t.Errorf("Glyph(%d, true) = % X", n, got)
		}
	}
}

// P4.1, P4.2: each glyph is in its font at the distance of its address from the font's.
func TestAddressesMatchFonts(t *testing.T) {
	small, big := Small(), Big()
	for d := range 16 {
		if at := SmallAt(d) - 80; !bytes.HasPrefix(small[at:], Glyph(d, false)) {
			t.Errorf("the small glyph of %X is not at %d", d, at)
		}
		if at := BigAt(d) - 160; !bytes.HasPrefix(big[at:], Glyph(d, true)) {
			t.Errorf("the big glyph of %X is not at %d", d, at)
		}
	}
}

// P4.2: the chapter's example.
func TestExample(t *testing.T) {
	if got, want := Glyph(1, false), []byte{0x20, 0x60, 0x20, 0x20, 0x70}; !bytes.Equal(got, want) {
		t.Errorf("Glyph(1, false) = % X, want % X", got, want)
	}
	if got := SmallAt(1); got != 85 {
		t.Errorf("SmallAt(1) = %d, want 85", got)
	}
}

// P4.3: what the caller does with a result, also with its unused capacity, changes no other one.
func TestResultsAreNew(t *testing.T) {
	calls := []func() []byte{Small, Big}
	for n := range 32 {
		calls = append(calls, func() []byte { return Glyph(n, false) }, func() []byte { return Glyph(n, true) })
	}
	var earlier, want [][]byte
	for _, call := range calls {
		earlier = append(earlier, call())
		want = append(want, bytes.Clone(call()))
	}
	for _, call := range calls {
		list := call()
		list = list[:cap(list)]
		for i := range list {
			list[i] ^= 0x5A
		}
	}
	for i, call := range calls {
		if got := call(); !bytes.Equal(got, want[i]) {
			t.Errorf("call %d returns % X after changes of results, want % X", i, got, want[i])
		}
		if !bytes.Equal(earlier[i], want[i]) {
			t.Errorf("the earlier result of call %d is % X after changes of others, want % X", i, earlier[i], want[i])
		}
	}
}
