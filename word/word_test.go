package word

import (
	"fmt"
	"math"
	"testing"

	"cosmac/api"
)

// eachOpcode calls a function for every opcode and the bytes of it.
func eachOpcode(visit func(n int, high, low byte)) {
	for n := range 65536 {
		visit(n, byte(n/256), byte(n%256))
	}
}

// P1.1
func TestSplitExample(t *testing.T) {
	want := Fields{Head: 13, X: 1, Y: 2, N: 3, NN: 35, NNN: 291}
	if got := Split(0xD1, 0x23); got != want {
		t.Errorf("Split(D1, 23) = %+v, want %+v", got, want)
	}
}

// P1.1
func TestSplitEveryOpcode(t *testing.T) {
	eachOpcode(func(n int, high, low byte) {
		want := Fields{
			Head: n / 4096,
			X:    n / 256 % 16,
			Y:    n / 16 % 16,
			N:    n % 16,
			NN:   n % 256,
			NNN:  n % 4096,
		}
		if got := Split(high, low); got != want {
			t.Fatalf("Split(%02X, %02X) = %+v, want %+v", high, low, got, want)
		}
	})
}

// P1.2
func TestJoinEveryOpcode(t *testing.T) {
	eachOpcode(func(n int, high, low byte) {
		gotHigh, gotLow, err := Join(n/4096, n/256%16, n/16%16, n%16)
		if gotHigh != high || gotLow != low || err != api.OK {
			t.Fatalf("Join of the digits of %04X = %02X, %02X, %d", n, gotHigh, gotLow, err)
		}
	})
}

// P1.2
func TestJoinRejectsWhatIsNoDigit(t *testing.T) {
	for place := range 4 {
		for _, wrong := range []int{-1, -16, 16, 17, 255, 256, 65536, 1 << 32, math.MinInt, math.MaxInt} {
			for _, other := range []int{0, 1, 15} {
				d := [4]int{other, other, other, other}
				d[place] = wrong
				if high, low, err := Join(d[0], d[1], d[2], d[3]); high != 0 || low != 0 || err != api.ErrArg {
					t.Errorf("Join%v = %d, %d, %d, want 0, 0, ErrArg", d, high, low, err)
				}
			}
		}
	}
}

// P1.2: digits out of range must not cancel each other out in the sum.
func TestJoinRejectsSeveralWrongDigits(t *testing.T) {
	for _, d := range [][4]int{{1, -1, 16, 0}, {0, 1, -1, 16}, {16, 16, 16, 16}, {-1, -1, -1, -1}, {16, -1, 0, 0}} {
		if high, low, err := Join(d[0], d[1], d[2], d[3]); high != 0 || low != 0 || err != api.ErrArg {
			t.Errorf("Join%v = %d, %d, %d, want 0, 0, ErrArg", d, high, low, err)
		}
	}
}

// P1.3
func TestNumberEveryOpcode(t *testing.T) {
	eachOpcode(func(n int, high, low byte) {
		if got := Number(high, low); got != n {
			t.Fatalf("Number(%02X, %02X) = %d, want %d", high, low, got, n)
		}
	})
}

// P1.3
func TestBytesAroundZero(t *testing.T) {
	for n := -3 * 65536; n <= 3*65536; n++ {
		rest := (n%65536 + 65536) % 65536
		if high, low := Bytes(n); int(high) != rest/256 || int(low) != rest%256 {
			t.Fatalf("Bytes(%d) = %02X, %02X, want those of %d", n, high, low, rest)
		}
	}
}

// P1.3
func TestBytesOfNamedNumbers(t *testing.T) {
	for _, x := range []struct {
		n         int
		high, low byte
	}{
		{0, 0x00, 0x00},
		{0xD123, 0xD1, 0x23},
		{65535, 0xFF, 0xFF},
		{65536, 0x00, 0x00},
		{0x12345678, 0x56, 0x78},
		{-1, 0xFF, 0xFF},
		{-255, 0xFF, 0x01},
		{-256, 0xFF, 0x00},
		{-257, 0xFE, 0xFF},
		{-65536, 0x00, 0x00},
		{-65537, 0xFF, 0xFF},
		{math.MaxInt, 0xFF, 0xFF},
		{math.MinInt, 0x00, 0x00},
		{math.MinInt + 1, 0x00, 0x01},
	} {
		if high, low := Bytes(x.n); high != x.high || low != x.low {
			t.Errorf("Bytes(%d) = %02X, %02X, want %02X, %02X", x.n, high, low, x.high, x.low)
		}
	}
}

// P1.4
func TestHexOfNamedNumbers(t *testing.T) {
	for _, x := range []struct {
		n, digits int
		text      string
	}{
		{0, 1, "0"},
		{0, 8, "00000000"},
		{9, 1, "9"},
		{10, 1, "A"},
		{15, 1, "F"},
		{16, 1, "0"},
		{16, 2, "10"},
		{0xD123, 4, "D123"},
		{0xD123, 3, "123"},
		{0xD123, 5, "0D123"},
		{0x89ABCDEF, 8, "89ABCDEF"},
		{0x89ABCDEF, 7, "9ABCDEF"},
		{math.MaxUint32, 8, "FFFFFFFF"},
		{math.MaxUint32, 1, "F"},
	} {
		if got := Hex(x.n, x.digits); got != x.text {
			t.Errorf("Hex(%d, %d) = %q, want %q", x.n, x.digits, got, x.text)
		}
	}
}

// P1.4
func TestHexEveryNumberOfDigits(t *testing.T) {
	for i := range 1 << 16 {
		// The factor spreads the numbers over all 32 bits.
		for _, n := range []int{i, i * 65537, math.MaxUint32 - i} {
			whole := fmt.Sprintf("%08X", n)
			for digits := 1; digits <= 8; digits++ {
				if got, want := Hex(n, digits), whole[8-digits:]; got != want {
					t.Fatalf("Hex(%d, %d) = %q, want %q", n, digits, got, want)
				}
			}
		}
	}
}

// P1.4
func TestHexRejectsOtherArguments(t *testing.T) {
	numbers := []int{0, 1, 0xD123, math.MaxUint32}
	wrongNumbers := []int{-1, -16, math.MaxUint32 + 1, math.MaxUint32 + 2, 1 << 40, math.MinInt, math.MaxInt}
	wrongDigits := []int{0, -1, -8, 9, 10, 16, 1 << 32, math.MinInt, math.MaxInt}
	check := func(n, digits int) {
		if got := Hex(n, digits); got != "" {
			t.Errorf("Hex(%d, %d) = %q, want an empty string", n, digits, got)
		}
	}
	for _, n := range wrongNumbers {
		for digits := 1; digits <= 8; digits++ {
			check(n, digits)
		}
	}
	for _, digits := range wrongDigits {
		for _, n := range append(numbers, wrongNumbers...) {
			check(n, digits)
		}
	}
}
