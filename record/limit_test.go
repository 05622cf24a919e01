package record

import (
	"bytes"
	"runtime"
	"testing"

	"cosmac/frame"
)

// P23.2: 2^20 records are encoded, and one more is not. (The list has more than 4 GB, but its memory is only reserved as long as none of it was in use before: this file comes first.)
func TestEncodeLimit(t *testing.T) {
	const limit = 1 << 20
	l := make([]frame.Record, limit+1)
	checkNotEncoded(t, l)
	b := encode(t, l[:limit])
	if want := append([]byte("C8R1\x00\x10\x00\x00"), make([]byte, limit*headLen)...); !bytes.Equal(b, want) {
		t.Errorf("2^20 records have %d bytes, or others than zeros behind the number", len(b))
	}
	runtime.GC() // otherwise, the tests that follow could leave as much garbage
}

// P23.3: 2^20 records are decoded, and more are not. (The records are only counted, as a list of so many is large.)
func TestDecodeLimit(t *testing.T) {
	const limit = 1 << 20
	b := append([]byte("C8R1\x00\x10\x00\x00"), make([]byte, (limit+1)*headLen)...)
	n := 0
	if !visit(b[:8+limit*headLen], func(frame.Record) { n++ }) || n != limit {
		t.Errorf("of 2^20 records, %d are read", n)
	}
	checkNotDecoded(t, b)                              // a record more than the number tells
	checkNotDecoded(t, b[:8+(limit-1)*headLen])        // a record less
	checkNotDecoded(t, b[:8+limit*headLen-1])          // a byte less
	copy(b, "C8R1\x00\x10\x00\x01")                    // 2^20 + 1
	checkNotDecoded(t, b)                              // and so many records
	checkNotDecoded(t, b[:8])                          // and none
	checkNotDecoded(t, []byte("C8R1\xFF\xFF\xFF\xFF")) // the greatest number
	checkNotDecoded(t, []byte("C8R1\x80\x00\x00\x00"))
	checkNotDecoded(t, []byte("C8R1\x01\x00\x00\x00"))
}
