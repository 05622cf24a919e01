package audio

import (
	"math"
	"math/big"
	"slices"
	"strings"
	"testing"

	"cosmac/api"
)

// zeros returns n zero bytes.
func zeros(n int) []byte { return make([]byte, n) }

// filled returns n bytes with the value v.
func filled(n int, v byte) []byte { return slices.Repeat([]byte{v}, n) }

// counted returns the n bytes 1, 2 and so on.
func counted(n int) []byte {
	list := make([]byte, n)
	for i := range list {
		list[i] = byte(i + 1)
	}
	return list
}

// mixed returns a state whose Pattern has no two equal bytes and no zero byte.
func mixed() Audio {
	a := Audio{Pitch: 77}
	for i := range a.Pattern {
		a.Pattern[i] = byte(131*i + 29)
	}
	return a
}

// single returns a state in whose Pattern only the given sample differs from all the others, which are those of the byte rest.
func single(i int, rest byte) Audio {
	a := Load(New(), filled(api.Pattern, rest))
	a.Pattern[i/8] ^= 128 >> (i % 8)
	return a
}

// digits returns the 128 samples of a pattern as text, without the shifts of the package.
func digits(p [api.Pattern]byte) string {
	text := new(big.Int).SetBytes(p[:]).Text(2)
	return strings.Repeat("0", 8*api.Pattern-len(text)) + text
}

// patterns holds patterns of all kinds.
func patterns() [][api.Pattern]byte {
	list := [][api.Pattern]byte{{}, {128}, {1}, {15: 1}, {15: 128}, {0x80, 0x01, 0xFF}, mixed().Pattern}
	for _, v := range []byte{0x55, 0xAA, 0x0F, 0xF0, 0xFF} {
		list = append(list, [api.Pattern]byte(filled(api.Pattern, v)))
	}
	for i := range 128 {
		list = append(list, single(i, 0).Pattern, single(i, 255).Pattern)
	}
	return list
}

// P11.1: the initial state has the Pitch 64 and zero bytes.
func TestNew(t *testing.T) {
	want := Audio{Pitch: 64}
	if got := New(); got != want {
		t.Errorf("the initial state is %v", got)
	}
}

// P11.1: a changed copy of the initial state does not change the next one.
func TestNewAgain(t *testing.T) {
	a := New()
	a.Pattern[3], a.Pitch = 9, 9
	if got := New(); got.Pattern[3] != 0 || got.Pitch != 64 {
		t.Errorf("the initial state is %v", got)
	}
}

// P11.1: the first 16 bytes are the Pattern, with zero bytes behind fewer ones, whatever was there before.
func TestLoad(t *testing.T) {
	for _, c := range []struct {
		name string
		b    []byte
		want [api.Pattern]byte
	}{
		{"nil", nil, [api.Pattern]byte{}},
		{"no bytes", []byte{}, [api.Pattern]byte{}},
		{"one byte", []byte{128}, [api.Pattern]byte{128}},
		{"three bytes", []byte{0x80, 0x01, 0xFF}, [api.Pattern]byte{0x80, 0x01, 0xFF}},
		{"a zero byte", []byte{0}, [api.Pattern]byte{}},
		{"15 bytes", counted(15), [api.Pattern]byte{1, 2, 3, 4, 5, 6, 7, 8, 9, 10, 11, 12, 13, 14, 15, 0}},
		{"16 bytes", counted(16), [api.Pattern]byte{1, 2, 3, 4, 5, 6, 7, 8, 9, 10, 11, 12, 13, 14, 15, 16}},
		{"17 bytes", counted(17), [api.Pattern]byte{1, 2, 3, 4, 5, 6, 7, 8, 9, 10, 11, 12, 13, 14, 15, 16}},
		{"many bytes", counted(70000), [api.Pattern]byte{1, 2, 3, 4, 5, 6, 7, 8, 9, 10, 11, 12, 13, 14, 15, 16}},
	} {
		for _, old := range []Audio{{}, New(), mixed()} {
			want := Audio{Pattern: c.want, Pitch: old.Pitch}
			if got := Load(old, c.b); got != want {
				t.Errorf("%s into %v: %v, want %v", c.name, old, got, want)
			}
		}
	}
}

// P11.1: byte by byte, for all numbers of bytes around the size of the Pattern.
func TestLoadBytes(t *testing.T) {
	for n := range 40 {
		b := counted(n)
		a := Load(mixed(), b)
		for i, got := range a.Pattern {
			var want byte
			if i < n {
				want = b[i]
			}
			if got != want {
				t.Errorf("the byte %d of %d ones is %d, want %d", i, n, got, want)
			}
		}
	}
}

// P11.1: the state has this Pitch and the same Pattern, for all pitches.
func TestTune(t *testing.T) {
	for _, old := range []Audio{{}, New(), mixed()} {
		for pitch := range 256 {
			want := Audio{Pattern: old.Pattern, Pitch: byte(pitch)}
			if got := Tune(old, byte(pitch)); got != want {
				t.Errorf("the pitch %d for %v: %v", pitch, old, got)
			}
		}
	}
}

// P11.1: neither the state nor the bytes that are passed are changed, nor the capacity behind the bytes, and later changes of the bytes are not seen.
func TestIndependence(t *testing.T) {
	old, kept := mixed(), mixed()
	room := counted(20)
	b := room[2:7]
	a := Load(old, b)
	if !slices.Equal(room, counted(20)) {
		t.Errorf("the bytes are changed to %v", room)
	}
	Tune(old, 1)
	Sample(old, 5)
	Silent(old)
	if old != kept {
		t.Errorf("the state is changed to %v", old)
	}
	b[0] = 99
	if a.Pattern[0] != 3 {
		t.Errorf("the Pattern follows the bytes: %v", a.Pattern)
	}
}

// P11.2: the chapter's example, and samples at the edges of bytes and of the pattern.
func TestSampleEdges(t *testing.T) {
	first := Load(New(), []byte{128})
	some := Load(New(), []byte{0x80, 0x01, 0xFF, 15: 0x81})
	for _, c := range []struct {
		a    Audio
		i    int
		want bool
	}{
		{first, 0, true}, {first, 128, true}, {first, -128, true}, {first, 256, true}, {first, -256, true},
		{first, 1, false}, {first, 7, false}, {first, 8, false}, {first, 127, false}, {first, -1, false}, {first, 129, false}, {first, -127, false},
		{some, 0, true}, {some, 1, false}, {some, 7, false}, {some, 8, false}, {some, 14, false}, {some, 15, true},
		{some, 16, true}, {some, 23, true}, {some, 24, false}, {some, 119, false}, {some, 120, true}, {some, 121, false},
		{some, 126, false}, {some, 127, true}, {some, -1, true}, {some, -2, false}, {some, -8, true}, {some, -9, false}, {some, -113, true},
		{first, 1 << 31, true}, {first, 1<<31 + 1, false}, {first, 1 << 32, true}, {first, -1 << 40, true},
		{first, math.MaxInt, false}, {first, math.MaxInt - 127, true}, {first, math.MinInt, true}, {first, math.MinInt + 1, false},
		{some, math.MaxInt, true}, {some, math.MaxInt - 1, false}, {some, math.MinInt + 15, true}, {some, math.MinInt + 14, false},
	} {
		if got := Sample(c.a, c.i); got != c.want {
			t.Errorf("the sample %d of %v is %v", c.i, c.a.Pattern, got)
		}
	}
}

// P11.2: all samples are the digits of the pattern as a binary number, and the others are those with the remainder of their number.
func TestSample(t *testing.T) {
	starts := []int{0, 128, 1280, 1 << 20, 1 << 40, math.MaxInt - 127, -128, -256, -1280, -1 << 20, -1 << 40, math.MinInt}
	for _, p := range patterns() {
		text := digits(p)
		a := Audio{Pattern: p, Pitch: 3}
		for _, start := range starts {
			for i := range text {
				if got := Sample(a, start+i); got != (text[i] == '1') {
					t.Errorf("the sample %d of %v is %v", start+i, p, got)
				}
			}
		}
	}
}

// P11.2: the Pitch decides neither the samples nor the silence.
func TestPitchIsNoSample(t *testing.T) {
	for pitch := range 256 {
		for _, a := range []Audio{New(), mixed(), single(127, 255)} {
			b := Tune(a, byte(pitch))
			if Silent(a) != Silent(b) {
				t.Errorf("the pitch %d changes the silence of %v", pitch, a)
			}
			for i := range 128 {
				if Sample(a, i) != Sample(b, i) {
					t.Errorf("the pitch %d changes the sample %d of %v", pitch, i, a)
				}
			}
		}
	}
}

// P11.2: patterns of equal samples are silent, and others are not.
func TestSilent(t *testing.T) {
	for _, c := range []struct {
		name string
		b    []byte
		want bool
	}{
		{"no bytes", nil, true},
		{"zero bytes", zeros(16), true},
		{"all samples are 1", filled(16, 255), true},
		{"all samples of the first 15 bytes are 1", filled(15, 255), false},
		{"all samples of the first byte are 1", filled(1, 255), false},
		{"equal bytes with different samples", filled(16, 0xAA), false},
		{"equal bytes with different samples, the first of which is 0", filled(16, 0x55), false},
		{"equal bytes that end with 1", filled(16, 1), false},
		{"equal bytes that begin with 1", filled(16, 128), false},
		{"one byte after 16 ones is no part of it", append(filled(16, 255), 0), true},
		{"one byte after 16 zero bytes is no part of it", append(zeros(16), 1), true},
	} {
		if got := Silent(Load(mixed(), c.b)); got != c.want {
			t.Errorf("%s: %v, want %v", c.name, got, c.want)
		}
	}
}

// P11.2: a single sample that differs from the others breaks the silence, wherever it is.
func TestSilentSingle(t *testing.T) {
	for i := range 128 {
		if Silent(single(i, 0)) {
			t.Errorf("a pattern whose sample %d alone is 1 is silent", i)
		}
		if Silent(single(i, 255)) {
			t.Errorf("a pattern whose sample %d alone is 0 is silent", i)
		}
	}
}

// P11.2: the silence is that of the digits of the pattern.
func TestSilentDigits(t *testing.T) {
	for _, p := range patterns() {
		text := digits(p)
		want := strings.Count(text, text[:1]) == len(text)
		if got := Silent(Audio{Pattern: p}); got != want {
			t.Errorf("%v is silent: %v", p, got)
		}
	}
}
