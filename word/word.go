// Package word is layer 1: see shared/doc/01-word.md.
package word

import (
	"math"

	"cosmac/api"
)

const (
	hexDigits    = "0123456789ABCDEF"
	base         = 16
	maxHexDigits = 8
)

// Fields are the fields of an opcode.
type Fields struct {
	Head int
	X    int
	Y    int
	N    int
	NN   int
	NNN  int
}

// Split returns the fields of an opcode.
func Split(high, low byte) Fields {
	number := Number(high, low)
	return Fields{
		Head: number >> 12,
		X:    number >> 8 & 0xF,
		Y:    number >> 4 & 0xF,
		N:    number & 0xF,
		NN:   number & 0xFF,
		NNN:  number & 0xFFF,
	}
}

// Join returns the bytes of the opcode with four digits, or ErrArg if one of them is no digit.
func Join(head, x, y, n int) (byte, byte, api.Errno) {
	number := 0
	for _, digit := range [...]int{head, x, y, n} {
		if digit < 0 || digit >= base {
			return 0, 0, api.ErrArg
		}
		number = number*base + digit
	}
	high, low := Bytes(number)
	return high, low, api.OK
}

// Number returns the number of an opcode.
func Number(high, low byte) int { return int(high)<<8 | int(low) }

// Bytes returns the two bytes of a number modulo 65536.
func Bytes(n int) (byte, byte) {
	// Shifts of negative numbers round down, so that the conversions yield the remainder that is not negative.
	return byte(n >> 8), byte(n)
}

// Hex returns the last digits of base 16 of a number of at most 32 bits, and the empty string for other arguments.
func Hex(n, digits int) string {
	// The bound does not fit into the int of a 32-bit machine.
	if n < 0 || int64(n) > math.MaxUint32 || digits < 1 || digits > maxHexDigits {
		return ""
	}
	text := make([]byte, digits)
	for i := range digits {
		text[digits-1-i] = hexDigits[n%base]
		n /= base
	}
	return string(text)
}
