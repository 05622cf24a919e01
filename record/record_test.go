package record

import (
	"bytes"
	"math"
	"math/bits"
	"slices"
	"testing"

	"cosmac/api"
	"cosmac/frame"
	"cosmac/plane"
	"cosmac/row"
	"cosmac/script"
)

const headLen = 31 // of a record without its planes

// pixel returns the plane with a single pixel.
func pixel(x, y int) plane.Plane {
	var p plane.Plane
	p.Rows[y] = row.Set(row.Row{}, x, true)
	return p
}

// encode encodes a list that is not rejected.
func encode(t *testing.T, l []frame.Record) []byte {
	t.Helper()
	b, e := Encode(l)
	if e != api.OK {
		t.Fatalf("Encode of %d records = %v", len(l), e)
	}
	return b
}

// decode decodes bytes that are not rejected.
func decode(t *testing.T, b []byte) []frame.Record {
	t.Helper()
	l, e := Decode(b)
	if e != api.OK {
		t.Fatalf("Decode of %d bytes = %v", len(b), e)
	}
	return l
}

// checkNotEncoded checks that a list is rejected.
func checkNotEncoded(t *testing.T, l []frame.Record) {
	t.Helper()
	if b, e := Encode(l); b != nil || e != api.ErrArg {
		t.Errorf("Encode of %d records = %d bytes, %v", len(l), len(b), e)
	}
}

// checkNotDecoded checks that bytes are rejected.
func checkNotDecoded(t *testing.T, b []byte) {
	t.Helper()
	if l, e := Decode(b); l != nil || e != api.ErrForm {
		t.Errorf("Decode of %d bytes = %d records, %v", len(b), len(l), e)
	}
}

// checkDecoded compares the result of Decode with that of the model.
func checkDecoded(t *testing.T, b []byte) {
	t.Helper()
	want, ok := modelDecode(b)
	if !ok {
		checkNotDecoded(t, b)
		return
	}
	if l, e := Decode(b); !slices.Equal(l, want) || e != api.OK {
		t.Errorf("Decode of %d bytes = %d records, %v; want %d", len(b), len(l), e, len(want))
	}
}

// samples returns valid records of all kinds of status, with some pixels.
func samples() []frame.Record {
	running := frame.Record{Pitch: 64}
	waiting := frame.Record{Sound: true, Pitch: 255, Status: api.Status{Kind: api.Waiting}}
	waiting.Planes[1] = pixel(63, 31)
	halted := frame.Record{Hires: true, Pattern: [16]byte{0: 1, 7: 128, 15: 255}, Status: api.Status{Kind: api.Halted, PC: 0x234, Cycle: 0x0123456789ABCDEF}}
	halted.Planes[0], halted.Planes[3] = pixel(0, 0), pixel(127, 63)
	faulted := frame.Record{Hires: true, Sound: true, Status: api.Status{Kind: api.Faulted, Cause: api.ErrRange, PC: 65535, Cycle: 1 << 62}}
	return []frame.Record{running, waiting, halted, faulted}
}

// P23.1: a pixel is allowed within the width and height of the resolution only, on each plane.
func TestValidPixels(t *testing.T) {
	for _, hires := range []bool{false, true} {
		width, height := plane.Size(hires)
		for y := range 64 {
			for x := range 128 {
				for i := range 4 {
					r := frame.Record{Hires: hires}
					r.Planes[i] = pixel(x, y)
					if valid := Valid(r); valid != (x < width && y < height) {
						t.Fatalf("Hires %v, the pixel (%d, %d) on the plane %d: %v", hires, x, y, i, valid)
					}
				}
			}
		}
	}
}

// P23.1: one pixel outside is enough, and all pixels inside are not too many.
func TestValidFull(t *testing.T) {
	for _, hires := range []bool{false, true} {
		width, height := plane.Size(hires)
		full := frame.Record{Hires: hires}
		for i := range full.Planes {
			for y := range height {
				for x := range width {
					full.Planes[i].Rows[y] = row.Set(full.Planes[i].Rows[y], x, true)
				}
			}
		}
		if !Valid(full) {
			t.Errorf("Hires %v, all pixels: not valid", hires)
		}
		full.Hires = !hires
		if Valid(full) != !hires {
			t.Errorf("all pixels of %d lines, with the other resolution: %v", height, hires)
		}
		for i := range full.Planes {
			for _, at := range [][2]int{{64, 0}, {64, 31}, {0, 32}, {63, 32}, {127, 63}} {
				r := full
				r.Hires = false
				r.Planes[i].Rows[at[1]] = row.Set(r.Planes[i].Rows[at[1]], at[0], true)
				if Valid(r) {
					t.Errorf("a pixel at %v outside of the plane %d: valid", at, i)
				}
			}
		}
	}
}

// P23.1: the status is compared with the model for all kinds and causes, and for numbers at the edges.
func TestValidStatus(t *testing.T) {
	numbers := []int{math.MinInt, math.MinInt + 1, -65536, -2, -1, 0, 1, 2, 512, 65534, 65535, 65536, 65537, 1 << 32,
		1<<62 - 1, 1 << 62, 1<<62 + 1, math.MaxInt - 1, math.MaxInt}
	kinds := []int{math.MinInt, -256, -4, -3, -2, -1, 0, 1, 2, 3, 4, 5, 255, 256, 257, 258, 259, math.MaxInt}
	causes := []api.Errno{math.MinInt, -1, 0, 1, 2, 3, 4, 5, 6, 7, 8, 256, 257, math.MaxInt}
	for _, kind := range kinds {
		for _, cause := range causes {
			for _, pc := range numbers {
				for _, cycle := range numbers {
					r := frame.Record{Status: api.Status{Kind: kind, Cause: cause, PC: pc, Cycle: cycle}}
					if Valid(r) != modelStatus(r.Status) {
						t.Errorf("%+v: %v", r.Status, Valid(r))
					}
				}
			}
		}
	}
}

// P23.1: written-out statuses, with all that is allowed beside them.
func TestValidExamples(t *testing.T) {
	for _, x := range []struct {
		s     api.Status
		valid bool
	}{
		{api.Status{}, true},
		{api.Status{PC: 1}, false},
		{api.Status{Cycle: 1}, false},
		{api.Status{Cause: api.ErrIllegal}, false},
		{api.Status{Kind: api.Waiting}, true},
		{api.Status{Kind: api.Waiting, PC: 512}, false},
		{api.Status{Kind: api.Waiting, Cycle: 1}, false},
		{api.Status{Kind: api.Halted}, true},
		{api.Status{Kind: api.Halted, PC: 65535, Cycle: 1 << 62}, true},
		{api.Status{Kind: api.Halted, PC: 65536}, false},
		{api.Status{Kind: api.Halted, PC: -1}, false},
		{api.Status{Kind: api.Halted, Cycle: 1<<62 + 1}, false},
		{api.Status{Kind: api.Halted, Cycle: -1}, false},
		{api.Status{Kind: api.Halted, Cause: api.ErrReturn}, false},
		{api.Status{Kind: api.Faulted}, false},
		{api.Status{Kind: api.Faulted, Cause: api.ErrIllegal}, true},
		{api.Status{Kind: api.Faulted, Cause: api.ErrOverflow}, true},
		{api.Status{Kind: api.Faulted, Cause: api.ErrReturn}, true},
		{api.Status{Kind: api.Faulted, Cause: api.ErrRange, PC: 65535, Cycle: 1 << 62}, true},
		{api.Status{Kind: api.Faulted, Cause: api.ErrArg}, false},
		{api.Status{Kind: -1}, false},
		{api.Status{Kind: 4}, false},
	} {
		for i := range 256 {
			r := frame.Record{Hires: i&1 != 0, Sound: i&2 != 0, Pitch: byte(i), Pattern: [16]byte{3: byte(i), 15: 255}, Status: x.s}
			r.Planes[i%4] = pixel(i%64, i%32)
			if Valid(r) != x.valid {
				t.Fatalf("%+v: %v", r, !x.valid)
			}
		}
	}
}

// P23.2: the chapter's example.
func TestEncodeEmpty(t *testing.T) {
	for _, l := range [][]frame.Record{nil, {}} {
		if b := encode(t, l); string(b) != "C8R1\x00\x00\x00\x00" {
			t.Errorf("Encode = %q", b)
		}
	}
}

// P23.2, P23.3: a written-out encoding of two records.
func TestEncodeExample(t *testing.T) {
	a := frame.Record{Hires: true, Sound: true, Pitch: 0x70, Status: api.Status{Kind: api.Faulted, Cause: api.ErrReturn, PC: 0x1234, Cycle: 0x0102030405060708}}
	for i := range a.Pattern {
		a.Pattern[i] = byte(0xA0 + i)
	}
	a.Planes[1].Rows[0] = row.Row{High: 0x1122334455667788, Low: 0x99AABBCCDDEEFF01}
	a.Planes[2].Rows[63] = row.Row{Low: 0x8000000000000002}
	b := frame.Record{Pitch: 1, Status: api.Status{Kind: api.Waiting}}
	want := []byte("C8R1\x00\x00\x00\x02" +
		"\x03\x70\xA0\xA1\xA2\xA3\xA4\xA5\xA6\xA7\xA8\xA9\xAA\xAB\xAC\xAD\xAE\xAF\x03\x03\x12\x34\x01\x02\x03\x04\x05\x06\x07\x08\x06" +
		"\x11\x22\x33\x44\x55\x66\x77\x88\x99\xAA\xBB\xCC\xDD\xEE\xFF\x01")
	want = append(want, make([]byte, 63*16+63*16+8)...)
	want = append(want, "\x80\x00\x00\x00\x00\x00\x00\x02"+"\x00\x01"...)
	want = append(want, make([]byte, 16)...)
	want = append(want, "\x01\x00\x00\x00\x00\x00\x00\x00\x00\x00\x00\x00\x00"...)
	l := []frame.Record{a, b}
	if got := encode(t, l); !bytes.Equal(got, want) {
		t.Errorf("Encode = %x, want %x", got, want)
	}
	if got := decode(t, want); !slices.Equal(got, l) {
		t.Errorf("Decode = %+v, want %+v", got, l)
	}
}

// P23.2, P23.3: each combination of flags and of planes with pixels has its own bytes, and planes without pixels have none.
func TestEncodeFlags(t *testing.T) {
	for flags := range 4 {
		for mask := range 16 {
			r := frame.Record{Hires: flags&1 != 0, Sound: flags&2 != 0}
			var rows []byte
			for i := range 4 {
				if mask>>i&1 == 1 {
					r.Planes[i] = pixel(0, i)
					own := make([]byte, 1024)
					own[16*i] = 128
					rows = append(rows, own...)
				}
			}
			b := encode(t, []frame.Record{r})
			if int(b[8]) != flags || int(b[8+headLen-1]) != mask || !bytes.Equal(b[8+headLen:], rows) {
				t.Errorf("flags %d and planes %d: %x", flags, mask, b)
			}
			if l := decode(t, b); len(l) != 1 || l[0] != r {
				t.Errorf("flags %d and planes %d: %d records, or another one", flags, mask, len(l))
			}
		}
	}
}

// P23.2, P23.3: each pixel has its own bit.
func TestEncodePixels(t *testing.T) {
	for y := range 64 {
		for x := range 128 {
			r := frame.Record{Hires: true}
			r.Planes[(x+y)%4] = pixel(x, y)
			b := encode(t, []frame.Record{r})
			rows := make([]byte, 1024)
			rows[16*y+x/8] = 128 >> (x % 8)
			if b[8+headLen-1] != 1<<((x+y)%4) || !bytes.Equal(b[8+headLen:], rows) {
				t.Fatalf("the pixel (%d, %d): %x", x, y, b)
			}
			if l := decode(t, b); len(l) != 1 || l[0] != r {
				t.Fatalf("the pixel (%d, %d): %d records, or another one", x, y, len(l))
			}
		}
	}
}

// P23.2, P23.3: lists of valid records have the encodings of the model, and are decoded from them.
func TestRoundTrip(t *testing.T) {
	g := generator(1)
	for i := range 60 {
		n := i % 7
		if i == 30 {
			n = 300 // more than one byte has room for
		}
		l := randomList(g, n)
		b := encode(t, l)
		if !bytes.Equal(b, modelEncode(l)) {
			t.Fatalf("%d records: not the encoding of the model", n)
		}
		if got := decode(t, b); !slices.Equal(got, l) {
			t.Fatalf("%d records: decoded to %d, or to others", n, len(got))
		}
	}
}

// P23.2, P23.3: the number of records has four bytes.
func TestEncodeCount(t *testing.T) {
	for _, n := range []int{1, 255, 256, 257, 4660} {
		l := make([]frame.Record, n)
		for i := range l {
			l[i].Pitch = byte(i)
		}
		b := encode(t, l)
		if want := []byte{0, byte(n >> 16), byte(n >> 8), byte(n)}; len(b) != 8+headLen*n || !bytes.Equal(b[4:8], want) {
			t.Errorf("%d records: %d bytes, %v", n, len(b), b[4:8])
		}
		if got := decode(t, b); !slices.Equal(got, l) {
			t.Errorf("%d records: decoded to %d, or to others", n, len(got))
		}
	}
}

// P23.2: a record that is not valid is found at each index.
func TestEncodeInvalid(t *testing.T) {
	wrong := []frame.Record{
		{Status: api.Status{Kind: 4}}, {Status: api.Status{Kind: -1}}, {Status: api.Status{PC: 1}}, {Status: api.Status{Cause: 1}},
		{Status: api.Status{Kind: 2, PC: 65536}}, {Status: api.Status{Kind: 2, Cycle: 1<<62 + 1}}, {Status: api.Status{Kind: 3, Cause: 5}},
		{Planes: [4]plane.Plane{3: pixel(64, 0)}}, {Planes: [4]plane.Plane{0: pixel(0, 32)}},
		{Planes: [4]plane.Plane{1: pixel(127, 63)}, Status: api.Status{Kind: 1}},
	}
	for _, w := range wrong {
		checkNotEncoded(t, []frame.Record{w})
		for n := 2; n < 6; n++ {
			for at := range n {
				l := make([]frame.Record, n)
				l[at] = w
				checkNotEncoded(t, l)
			}
		}
	}
	checkNotEncoded(t, wrong)
}

// P23.3: what has too few or too many bytes is the encoding of no list.
func TestDecodeLength(t *testing.T) {
	for _, l := range [][]frame.Record{nil, samples(), samples()[1:2], samples()[2:3]} {
		b := encode(t, l)
		for n := range len(b) {
			checkNotDecoded(t, b[:n])
			checkNotDecoded(t, b[n+1:])
		}
		for n := 1; n < 40; n++ {
			checkNotDecoded(t, append(bytes.Clone(b), make([]byte, n)...))
			checkNotDecoded(t, append(make([]byte, n), b...))
		}
		checkNotDecoded(t, append(bytes.Clone(b), b...))
	}
	checkNotDecoded(t, nil)
	checkNotDecoded(t, []byte{})
}

// P23.3: each byte of an encoding is changed to all others (in the rows, to those that differ in one bit).
func TestDecodeChanged(t *testing.T) {
	for _, r := range samples() {
		b := encode(t, []frame.Record{r, r})
		for i := range b {
			was := b[i]
			for c := range 256 {
				second := len(b)/2 + 4
				head := i < 8+headLen || i >= second && i < second+headLen
				if head || bits.OnesCount8(was^byte(c)) == 1 {
					b[i] = byte(c)
					checkDecoded(t, b)
				}
			}
			b[i] = was
		}
	}
}

// P23.3: written-out changes of the encoding of a record.
func TestDecodeExamples(t *testing.T) {
	r := frame.Record{Status: api.Status{Kind: api.Halted, PC: 512, Cycle: 7}}
	r.Planes[2] = pixel(5, 6)
	code := encode(t, []frame.Record{r})
	const flags, kind, cause, pc, cycle, mask, rows = 8, 26, 27, 28, 30, 38, 39
	for i, x := range []struct {
		at    int
		bytes string
		ok    bool
	}{
		{0, "C8R1", true}, {0, "c8R1", false}, {0, "C8R2", false}, {0, "C8S1", false},
		{flags, "\x01", true}, {flags, "\x02", true}, {flags, "\x03", true}, {flags, "\x04", false}, {flags, "\x80", false}, {flags, "\xFF", false},
		{kind, "\x00", false}, {kind, "\x01", false}, {kind, "\x02", true}, {kind, "\x03", false}, {kind, "\x04", false}, {kind, "\xFF", false},
		{kind, "\x03\x01", true}, {kind, "\x03\x04", true}, {kind, "\x03\x05", false}, {kind, "\x03\x06", false}, {kind, "\x03\xFF", false},
		{cause, "\x01", false}, {pc, "\xFF\xFF", true}, {pc, "\x00\x00", true},
		{cycle, "\x00\x00\x00\x00\x00\x00\x00\x00", true}, {cycle, "\x40\x00\x00\x00\x00\x00\x00\x00", true},
		{cycle, "\x40\x00\x00\x00\x00\x00\x00\x01", false}, {cycle, "\x3F\xFF\xFF\xFF\xFF\xFF\xFF\xFF", true},
		{cycle, "\x80\x00\x00\x00\x00\x00\x00\x00", false}, {cycle, "\xFF\xFF\xFF\xFF\xFF\xFF\xFF\xFF", false},
		{kind, "\x00\x00\x00\x00\x00\x00\x00\x00\x00\x00\x00\x00", true}, {kind, "\x01\x00\x00\x00\x00\x00\x00\x00\x00\x00\x00\x00", true},
		{kind, "\x00\x00\x00\x01\x00\x00\x00\x00\x00\x00\x00\x00", false}, {kind, "\x01\x00\x00\x00\x00\x00\x00\x00\x00\x00\x00\x01", false},
		{mask, "\x00", false}, {mask, "\x01", true}, {mask, "\x08", true}, {mask, "\x05", false}, {mask, "\x14", false}, {mask, "\x10", false}, {mask, "\xF4", false},
		{rows + 16*6, "\x00", false}, {rows + 16*6, "\x80", true}, {rows + 16*6 + 8, "\x80", false}, {rows + 16*32, "\x80", false}, {rows + 16*31, "\x80", true},
	} {
		b := bytes.Clone(code)
		copy(b[x.at:], x.bytes)
		l, e := Decode(b)
		if x.ok && (e != api.OK || len(l) != 1 || !bytes.Equal(encode(t, l), b)) {
			t.Errorf("the change %d is wrong: %v", i, e)
		}
		if !x.ok {
			checkNotDecoded(t, b)
		}
	}
	b := append(bytes.Clone(code[:rows]), make([]byte, 1024)...) // a plane that is told to have a pixel, and has none
	checkNotDecoded(t, b)
	b[mask] = 0 // and rows of a plane without pixels
	checkNotDecoded(t, b)
	checkDecoded(t, b[:rows])
}

// P23.3: random changes of encodings are decoded like by the model.
func TestDecodeRandom(t *testing.T) {
	g := generator(2)
	for range 300 {
		b := encode(t, randomList(g, g.IntN(4)))
		for range 10 {
			c := bytes.Clone(b)
			for range 1 + g.IntN(3) {
				at := g.IntN(min(len(c), 8+headLen)) // the rows are long, and few of their changes are wrong
				switch g.IntN(4) {
				case 0:
					c[at] = byte(g.Uint32())
				case 1:
					c[at] = byte(g.IntN(5))
				case 2:
					c = slices.Insert(c, at, byte(g.IntN(3)))
				case 3:
					c = slices.Delete(c, at, at+1)
				}
			}
			checkDecoded(t, c)
		}
	}
}

// P23.4: the least index at which lists differ, for each index and each field of a record.
func TestDiff(t *testing.T) {
	for _, change := range []func(r *frame.Record){
		func(r *frame.Record) { r.Hires = !r.Hires },
		func(r *frame.Record) { r.Sound = !r.Sound },
		func(r *frame.Record) { r.Pitch++ },
		func(r *frame.Record) { r.Pattern[0]++ },
		func(r *frame.Record) { r.Pattern[15]++ },
		func(r *frame.Record) { r.Planes[0].Rows[0].High ^= 1 << 63 },
		func(r *frame.Record) { r.Planes[2].Rows[31].Low ^= 1 << 63 },
		func(r *frame.Record) { r.Planes[3].Rows[63].Low ^= 1 },
		func(r *frame.Record) { r.Status.Kind++ },
		func(r *frame.Record) { r.Status.Cause++ },
		func(r *frame.Record) { r.Status.PC++ },
		func(r *frame.Record) { r.Status.Cycle-- },
	} {
		for first := range 4 {
			a, b := samples(), samples()
			change(&b[first])
			checkDiff(t, a, b, first)
			checkDiff(t, a[first:], b[first:], 0)
			checkDiff(t, a[:first], b[:first], -1)
			checkDiff(t, a[first+1:], b[first+1:], -1)
			checkDiff(t, a[:first+1], b, first)
			if first < 3 {
				change(&b[3])
				checkDiff(t, a, b, first)
			}
		}
	}
}

// checkDiff compares Diff with the wanted index, in both orders of the lists.
func checkDiff(t *testing.T, a, b []frame.Record, want int) {
	t.Helper()
	if x, y := Diff(a, b), Diff(b, a); x != want || y != want {
		t.Errorf("Diff of %d and %d records = %d and %d, want %d", len(a), len(b), x, y, want)
	}
}

// P23.4: lists of different lengths differ at the end of the shorter one, if not before.
func TestDiffLength(t *testing.T) {
	l := append(samples(), samples()...)
	for n := range len(l) + 1 {
		for m := range n {
			checkDiff(t, l[:n], l[:m], m)
		}
		checkDiff(t, l[:n], slices.Clone(l[:n]), -1)
	}
	zero := make([]frame.Record, 3)
	checkDiff(t, zero, zero[:2], 2)
	checkDiff(t, zero, nil, 0)
	checkDiff(t, nil, nil, -1)
	checkDiff(t, nil, []frame.Record{}, -1)
	wrong := []frame.Record{{Status: api.Status{Kind: 9, PC: -1}}}
	checkDiff(t, wrong, slices.Clone(wrong), -1)
	checkDiff(t, wrong, zero, 0)
}

// P23.5: arguments stay as they are, also behind their ends.
func TestArguments(t *testing.T) {
	l := append(samples(), randomList(generator(3), 4)...)
	before := slices.Clone(l)
	invalid := []frame.Record{l[0], {Status: api.Status{Kind: 7}}, l[2]}
	invalidBefore := slices.Clone(invalid)
	b := encode(t, l[:4])
	for i := range l {
		Valid(l[i])
		encode(t, l[:i])
		Diff(l, l[:i])
		Diff(l[i:], l)
	}
	Encode(invalid)
	if !slices.Equal(l, before) || !slices.Equal(invalid, invalidBefore) {
		t.Error("the records are changed")
	}
	code := append(bytes.Clone(b), 1, 2, 3)
	for i := range b {
		Decode(code[:i])
	}
	decode(t, code[:len(b)])
	if !bytes.Equal(code, append(bytes.Clone(b), 1, 2, 3)) {
		t.Error("the bytes are changed")
	}
}

// P23.5: results are new memory: neither a changed argument nor a changed result changes another result.
func TestResults(t *testing.T) {
	l := samples()
	b, again := encode(t, l), encode(t, l)
	kept := bytes.Clone(b)
	clear(l)
	clear(again)
	if !bytes.Equal(b, kept) || !bytes.Equal(encode(t, samples()), kept) {
		t.Error("the encoding is changed")
	}
	x, y := decode(t, b), decode(t, b)
	clear(b)
	clear(y)
	if !slices.Equal(x, samples()) || !slices.Equal(decode(t, kept), samples()) {
		t.Error("the records are changed")
	}
	empty := encode(t, nil)
	empty[0]++
	if string(encode(t, nil)) != "C8R1\x00\x00\x00\x00" {
		t.Error("the encoding of the empty list is changed")
	}
}

// P23.1 to P23.4: the records of runs are valid, and are decoded from their encodings.
func TestRuns(t *testing.T) {
	for _, rom := range []string{
		"\x60\x05\xF0\x18\xF0\x29\xD0\x05\xF3\x0A\x00\xFD",         // a small digit, and the end after a key
		"\x00\xFF\xFF\x01\xA2\x00\xD0\x00\xF0\x02\x70\x09\x12\x06", // big sprites on all planes, and the pattern
		"\x22\x00", // calls until the stack is full
		"\x00\xEE", // a return on an empty one
		"\x6F\x01\xAF\xFF\xF0\x1E\x12\x02",
	} {
		for level := api.Chip8; level <= api.XOChip; level++ {
			for _, quirk := range []bool{false, true} {
				s := script.Script{ROM: []byte(rom), Cycles: 20, Cached: true}
				s.Profile = api.Profile{Level: level, Clip: quirk, DisplayWait: quirk, Fault: quirk}
				s.Frames = [][]api.KeyEvent{nil, {{Key: 3, Down: true}}, {{Key: 3}}, nil}
				result, e := script.Run(s)
				if e != api.OK || len(result.Records) != 4 {
					t.Fatalf("a run has %d records, %v", len(result.Records), e)
				}
				for _, r := range result.Records {
					if !Valid(r) {
						t.Errorf("a record of a run is not valid: %+v", r.Status)
					}
				}
				checkDiff(t, decode(t, encode(t, result.Records)), result.Records, -1)
			}
		}
	}
}
