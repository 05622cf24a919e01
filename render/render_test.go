package render

import (
	"math"
	"slices"
	"strings"
	"testing"

	"cosmac/api"
	"cosmac/frame"
	"cosmac/plane"
	"cosmac/row"
	"cosmac/script"
)

// resolutions are whether a screen has the high resolution.
var resolutions = []bool{false, true}

// withPixel returns the screen with one more pixel on the plane i.
func withPixel(planes screen, i, x, y int) screen {
	planes[i].Rows[y] = row.Set(planes[i].Rows[y], x, true)
	return planes
}

// characterList has the characters of all colors.
const characterList = ".123456789ABCDEF"

// withColor returns the screen with a pixel on each plane i whose 2^i is in the color.
func withColor(planes screen, color, x, y int) screen {
	for i, value := range []int{1, 2, 4, 8} {
		if color/value%2 == 1 {
			planes = withPixel(planes, i, x, y)
		}
	}
	return planes
}

// blank returns the lines of a screen without pixels, written out apart from the package.
func blank(hires bool) []string {
	if hires {
		return slices.Repeat([]string{strings.Repeat(".", 128)}, 64)
	}
	return slices.Repeat([]string{strings.Repeat(".", 64)}, 32)
}

// with returns lines with the text at the position x of the line y replaced.
func with(lines []string, x, y int, text string) []string {
	lines = slices.Clone(lines)
	lines[y] = lines[y][:x] + text + lines[y][x+len(text):]
	return lines
}

// replaced returns lines with another line y.
func replaced(lines []string, y int, line string) []string {
	lines = slices.Clone(lines)
	lines[y] = line
	return lines
}

// checkLines checks the lines of a screen.
func checkLines(t *testing.T, planes screen, hires bool, want []string) {
	t.Helper()
	got := Lines(planes, hires)
	if len(got) != len(want) {
		t.Fatalf("hires %v: %d lines, want %d", hires, len(got), len(want))
	}
	for y := range want {
		if got[y] != want[y] {
			t.Fatalf("hires %v, line %d:\n%s, want\n%s", hires, y, got[y], want[y])
		}
	}
}

// checkParsed checks the screen that lines are those of.
func checkParsed(t *testing.T, lines []string, planes screen, hires bool) {
	t.Helper()
	if p, h, e := Parse(lines); p != planes || h != hires || e != api.OK {
		t.Fatalf("Parse of %d lines: right planes %v, hires %v (want %v), %v", len(lines), p == planes, h, hires, e)
	}
}

// checkNotParsed checks that lines are not those of a screen.
func checkNotParsed(t *testing.T, lines []string) {
	t.Helper()
	if p, h, e := Parse(lines); p != (screen{}) || h || e != api.ErrForm {
		t.Fatalf("Parse of %d lines: planes without pixels %v, hires %v, %v; %.300q", len(lines), p == screen{}, h, e, lines)
	}
}

// P24.1: the chapter's example, and the same of the high resolution.
func TestLinesBlank(t *testing.T) {
	for _, hires := range resolutions {
		checkLines(t, screen{}, hires, blank(hires))
	}
}

// P24.1: a pixel is one character of its line, a digit for its plane; outside of the resolution it is nothing.
func TestLinesPixel(t *testing.T) {
	for _, hires := range resolutions {
		width, height := plane.Size(hires)
		for y := range 64 {
			for x := range 128 {
				i := (x + y) % 4
				want := blank(hires)
				if x < width && y < height {
					want = with(want, x, y, []string{"1", "2", "4", "8"}[i])
				}
				checkLines(t, withPixel(screen{}, i, x, y), hires, want)
			}
		}
	}
}

// P24.1: all colors, with their characters written out.
func TestLinesColors(t *testing.T) {
	for _, hires := range resolutions {
		for _, at := range [][2]int{{0, 0}, {24, 7}, {48, 31}} {
			var planes screen
			for color := range 16 {
				planes = withColor(planes, color, at[0]+color, at[1])
			}
			checkLines(t, planes, hires, with(blank(hires), at[0], at[1], characterList))
		}
	}
}

// P24.1: pixels outside are ignored, with and without those inside.
func TestLinesOutside(t *testing.T) {
	var full, outside screen
	for i := range full {
		for y := range full[i].Rows {
			full[i].Rows[y] = row.Row{High: math.MaxUint64, Low: math.MaxUint64}
			outside[i].Rows[y].Low = math.MaxUint64
			if y >= 32 {
				outside[i].Rows[y].High = math.MaxUint64
			}
		}
	}
	allSet := slices.Repeat([]string{strings.Repeat("F", 64)}, 32)
	checkLines(t, outside, false, blank(false))
	checkLines(t, full, false, allSet)
	wide := slices.Repeat([]string{strings.Repeat("F", 128)}, 64)
	checkLines(t, full, true, wide)
	for y := range 32 {
		wide[y] = strings.Repeat(".", 64) + wide[y][64:]
	}
	checkLines(t, outside, true, wide)
}

// P24.1, P24.2: random screens have the lines of the model, and are parsed from them.
func TestLinesModel(t *testing.T) {
	g := generator(1)
	for range 100 {
		for _, hires := range resolutions {
			planes := randomScreen(g, hires)
			lines := modelLines(planes, hires)
			checkLines(t, planes, hires, lines)
			checkLines(t, planes, !hires, modelLines(planes, !hires))
			checkParsed(t, lines, planes, hires)
		}
	}
}

// P24.1: results have nothing in common.
func TestLinesAgain(t *testing.T) {
	planes := withPixel(screen{}, 2, 5, 6)
	for _, hires := range resolutions {
		first := Lines(planes, hires)
		for y := range first {
			first[y] = "changed"
		}
		checkLines(t, planes, hires, with(blank(hires), 5, 6, "4"))
	}
}

// P24.2: each position is parsed, on a screen without other pixels.
func TestParsePixel(t *testing.T) {
	for _, hires := range resolutions {
		width, height := plane.Size(hires)
		empty := blank(hires)
		checkParsed(t, empty, screen{}, hires)
		for y := range height {
			for x := range width {
				color := 1 + (x+y)%15
				checkParsed(t, with(empty, x, y, characterList[color:color+1]), withColor(screen{}, color, x, y), hires)
			}
		}
	}
}

// P24.2: each character at each position is parsed, on screens with all characters.
func TestParseCharacters(t *testing.T) {
	for _, hires := range resolutions {
		width, height := plane.Size(hires)
		for first := range 16 {
			lines := blank(hires)
			var planes screen
			for y := range height {
				start := (first + y) % 16
				lines[y] = strings.Repeat(characterList[start:]+characterList[:start], width/16)
				for x := range width {
					planes = withColor(planes, (start+x)%16, x, y)
				}
			}
			checkParsed(t, lines, planes, hires)
		}
	}
}

// P24.2: other bytes are rejected, wherever they are.
func TestParseWrongBytes(t *testing.T) {
	g := generator(2)
	for _, hires := range resolutions {
		width, height := plane.Size(hires)
		empty, drawn := blank(hires), modelLines(randomScreen(g, hires), hires)
		for value := range 256 {
			wrong := string([]byte{byte(value)})
			if strings.Contains(characterList, wrong) {
				continue
			}
			for _, at := range [][2]int{{0, 0}, {width - 1, 0}, {width / 2, height / 2}, {0, height - 1}, {width - 1, height - 1}} {
				checkNotParsed(t, with(empty, at[0], at[1], wrong))
				checkNotParsed(t, with(drawn, at[0], at[1], wrong))
			}
			checkNotParsed(t, replaced(empty, 3, strings.Repeat(wrong, width)))
		}
		for y := range height {
			for x := range width {
				checkNotParsed(t, with(empty, x, y, "0"))
			}
		}
	}
}

// P24.2: characters of several bytes are rejected, in lines with the right number of bytes, and with that of characters.
func TestParseWideCharacters(t *testing.T) {
	for _, hires := range resolutions {
		width, height := plane.Size(hires)
		empty := blank(hires)
		for _, c := range []string{"é", "１", "Ａ", "．", "١", "🂡", "\uFFFD", "\xC0\xAE", "\xED\xA0\x80", "\u012E", "\u0131", "\u2031"} {
			for _, y := range []int{0, height / 2, height - 1} {
				for _, x := range []int{0, 7, width - len(c)} {
					checkNotParsed(t, with(empty, x, y, c))
				}
				checkNotParsed(t, replaced(empty, y, c+empty[y][1:]))
				checkNotParsed(t, replaced(empty, y, empty[y][1:]+c))
			}
			checkNotParsed(t, slices.Repeat([]string{strings.Repeat(c, width)}, height))
		}
	}
}

// P24.2: screens have 32 lines of 64 characters, or 64 lines of 128.
func TestParseSizes(t *testing.T) {
	for height := range 131 {
		for width := range 131 {
			lines := slices.Repeat([]string{strings.Repeat("7", width)}, height)
			if _, _, e := Parse(lines); height == 32 && width == 64 || height == 64 && width == 128 {
				if e != api.OK {
					t.Errorf("%d lines of %d characters: %v", height, width, e)
				}
				continue
			}
			checkNotParsed(t, lines)
		}
	}
	checkNotParsed(t, nil)
	checkNotParsed(t, []string{})
	checkNotParsed(t, []string{""})
	checkNotParsed(t, []string{strings.Join(blank(false), "\n")})
}

// P24.2: a line of another length is rejected, wherever it is.
func TestParseWrongLine(t *testing.T) {
	for _, hires := range resolutions {
		width, height := plane.Size(hires)
		empty := blank(hires)
		for y := range height {
			for _, wrong := range []int{0, 1, width - 1, width + 1, 3 * width / 2, 192 - width, 2 * width, 65536} {
				checkNotParsed(t, replaced(empty, y, strings.Repeat(".", wrong)))
			}
			for _, wrong := range []string{empty[y] + "\n", empty[y] + " ", " " + empty[y], empty[y][1:] + "\n", empty[y][1:] + " ", "\x00" + empty[y]} {
				checkNotParsed(t, replaced(empty, y, wrong))
			}
			checkNotParsed(t, slices.Delete(slices.Clone(empty), y, y+1))
			checkNotParsed(t, slices.Insert(slices.Clone(empty), y, empty[0]))
			checkNotParsed(t, slices.Insert(slices.Clone(empty), y, ""))
		}
		checkNotParsed(t, append(slices.Clone(empty), ""))
	}
}

// P24.2: what is parsed of changed lines has just these lines.
func TestParseChanged(t *testing.T) {
	g := generator(3)
	const often = characterList + "0Gaf@/:#"
	parsed := 0
	for range 500 {
		hires := g.IntN(2) == 1
		lines := modelLines(randomScreen(g, hires), hires)
		for range 1 + g.IntN(3) {
			c := often[g.IntN(len(often))]
			lines = with(lines, g.IntN(len(lines[0])), g.IntN(len(lines)), string(c))
		}
		planes, high, e := Parse(lines)
		if e == api.OK {
			parsed++
			if high != hires || !slices.Equal(modelLines(planes, high), lines) {
				t.Fatalf("hires %v: the parsed screen has other lines", hires)
			}
			continue
		}
		if !strings.ContainsAny(strings.Join(lines, ""), "0Gaf@/:#") {
			t.Fatalf("hires %v: lines of a screen are rejected", hires)
		}
		checkNotParsed(t, lines)
	}
	if parsed < 125 || parsed > 375 {
		t.Errorf("%d of 500 were parsed", parsed)
	}
}

// P24.2: a screen has pixels within its resolution only, and Parse leaves its argument as it is.
func TestParseArgument(t *testing.T) {
	g := generator(4)
	for _, hires := range resolutions {
		planes := randomScreen(g, hires)
		lines := modelLines(planes, hires)
		spare := append(slices.Clone(lines), "behind")
		checkParsed(t, spare[:len(lines)], planes, hires)
		if !slices.Equal(spare, append(slices.Clone(lines), "behind")) {
			t.Errorf("hires %v: the argument was changed", hires)
		}
		wrong := with(lines, 3, 3, "0")
		before := slices.Clone(wrong)
		checkNotParsed(t, wrong)
		if !slices.Equal(wrong, before) {
			t.Errorf("hires %v: the wrong argument was changed", hires)
		}
	}
}

// P24.3: written-out waves.
func TestWaveExamples(t *testing.T) {
	dots := func(n int) string { return strings.Repeat(".", n) }
	for _, x := range []struct {
		pattern [api.Pattern]byte
		want    string
	}{
		{[api.Pattern]byte{}, dots(128)},
		{[api.Pattern]byte{128}, "#" + dots(127)},
		{[api.Pattern]byte{1}, dots(7) + "#" + dots(120)},
		{[api.Pattern]byte{1: 0xE5}, dots(8) + "###..#.#" + dots(112)},
		{[api.Pattern]byte{15: 1}, dots(127) + "#"},
		{[api.Pattern]byte{15: 0x80}, dots(120) + "#" + dots(7)},
		{[api.Pattern]byte(slices.Repeat([]byte{0xF0}, 16)), strings.Repeat("####....", 16)},
		{[api.Pattern]byte(slices.Repeat([]byte{0xFF}, 16)), strings.Repeat("#", 128)},
	} {
		if got := Wave(x.pattern); got != x.want {
			t.Errorf("Wave(%X) = %s, want %s", x.pattern, got, x.want)
		}
	}
}

// P24.3: each sample on its own, and random patterns.
func TestWaveModel(t *testing.T) {
	for i := range 128 {
		var pattern [api.Pattern]byte
		pattern[i/8] = 128 >> (i % 8)
		if want := strings.Repeat(".", i) + "#" + strings.Repeat(".", 127-i); Wave(pattern) != want {
			t.Errorf("the sample %d: %s", i, Wave(pattern))
		}
	}
	g := generator(5)
	for range 1000 {
		pattern := randomPattern(g)
		if Wave(pattern) != modelWave(pattern) {
			t.Errorf("Wave(%X) = %s", pattern, Wave(pattern))
		}
	}
}

// P24.4: written-out texts.
func TestStatusExamples(t *testing.T) {
	for _, x := range []struct {
		s    api.Status
		want string
	}{
		{api.Status{}, "running"},
		{api.Status{Kind: api.Waiting}, "waiting"},
		{api.Status{Kind: api.Halted}, "halted at 0000 cycle 0"},
		{api.Status{Kind: api.Halted, PC: 0x200}, "halted at 0200 cycle 0"},
		{api.Status{Kind: api.Halted, PC: 0xFFFF, Cycle: 1 << 62}, "halted at FFFF cycle 4611686018427387904"},
		{api.Status{Kind: api.Halted, PC: 9, Cycle: 10}, "halted at 0009 cycle 10"},
		{api.Status{Kind: api.Faulted, Cause: api.ErrIllegal, PC: 0xABC, Cycle: 1}, "faulted illegal at 0ABC cycle 1"},
		{api.Status{Kind: api.Faulted, Cause: api.ErrOverflow, PC: 0xFFFE, Cycle: 65535}, "faulted overflow at FFFE cycle 65535"},
		{api.Status{Kind: api.Faulted, Cause: api.ErrReturn, PC: 0x1D, Cycle: 1000000}, "faulted return at 001D cycle 1000000"},
		{api.Status{Kind: api.Faulted, Cause: api.ErrRange}, "faulted range at 0000 cycle 0"},
	} {
		if got := Status(x.s); got != x.want {
			t.Errorf("Status(%+v) = %q, want %q", x.s, got, x.want)
		}
	}
}

// P24.4: all kinds and causes, with all PCs and numbers of cycles of all lengths.
func TestStatusModel(t *testing.T) {
	cycles := []int{0}
	for n := 1; n <= 1<<62/10; n *= 10 {
		cycles = append(cycles, n, 10*n-1)
	}
	for pc := range 65536 {
		s := api.Status{Kind: api.Halted, PC: pc, Cycle: cycles[pc%len(cycles)]}
		for cause := range api.ErrRange + 1 {
			if s.Cause = cause; cause != api.OK {
				s.Kind = api.Faulted
			}
			if Status(s) != modelStatus(s) {
				t.Errorf("Status(%+v) = %q", s, Status(s))
			}
		}
	}
}

// P1, P24.4: the text of a status that is not valid is not specified, but there is one.
func TestStatusNotValid(t *testing.T) {
	for _, kind := range []int{math.MinInt, -1, 0, 1, 2, 3, 4, math.MaxInt} {
		for _, cause := range []api.Errno{math.MinInt, -1, 0, 4, 5, 7, 8, math.MaxInt} {
			for _, n := range []int{math.MinInt, -1, 0, 65536, math.MaxInt} {
				s := api.Status{Kind: kind, Cause: cause, PC: n, Cycle: n}
				Status(s)
				if l := Record(frame.Record{Status: s}); len(l) != 36 {
					t.Errorf("the record with %+v has %d lines", s, len(l))
				}
			}
		}
	}
}

// P24.5: a written-out record of each resolution.
func TestRecordExamples(t *testing.T) {
	r := frame.Record{Planes: withPixel(withPixel(screen{}, 1, 2, 3), 3, 2, 3), Pitch: 112}
	r.Pattern[15] = 5
	wave := strings.Repeat(".", 125) + "#.#"
	want := append(with(blank(false), 2, 3, "A"), "sound off", "pitch 112", wave, "running")
	if got := Record(r); !slices.Equal(got, want) {
		t.Errorf("%q", got)
	}
	r.Hires, r.Sound, r.Pitch = true, true, 0
	r.Status = api.Status{Kind: api.Faulted, Cause: api.ErrOverflow, PC: 0x2A0, Cycle: 16}
	want = append(with(blank(true), 2, 3, "A"), "sound on", "pitch 0", wave, "faulted overflow at 02A0 cycle 16")
	if got := Record(r); !slices.Equal(got, want) {
		t.Errorf("%q", got)
	}
}

// P24.5: random records, with pixels outside of the low resolution, and all pitches.
func TestRecordModel(t *testing.T) {
	g := generator(6)
	for pitch := range 256 {
		r := frame.Record{Planes: randomScreen(g, true), Hires: g.IntN(2) == 1, Sound: g.IntN(2) == 1, Pattern: randomPattern(g), Pitch: byte(pitch)}
		if r.Status.Kind = pitch % 4; r.Status.Kind >= api.Halted {
			r.Status.PC, r.Status.Cycle = g.IntN(65536), g.IntN(1<<62)
		}
		if r.Status.Kind == api.Faulted {
			r.Status.Cause = api.Errno(1 + g.IntN(4))
		}
		want := append(modelLines(r.Planes, r.Hires), modelEnd(r.Sound, r.Pitch, r.Pattern, r.Status)...)
		if got := Record(r); !slices.Equal(got, want) {
			t.Errorf("%+v: %q", r.Status, got)
		}
	}
}

// P24.5: the records of a program that draws the digit 0 and sets the sound timer to 1, and of one that is faulted at once.
func TestRecordOfRun(t *testing.T) {
	s := script.Script{ROM: []byte{0xD0, 0x05, 0x61, 0x01, 0xF1, 0x18, 0x00, 0xFD}, Profile: api.Profile{Level: api.SuperChip}, Cycles: 10, Frames: make([][]api.KeyEvent, 2)}
	s.ROM = append([]byte{0xF0, 0x29}, s.ROM...)
	result, e := script.Run(s)
	if e != api.OK || len(result.Records) != 2 {
		t.Fatal(len(result.Records), e)
	}
	want := blank(false)
	for y, digit := range []string{"1111", "1..1", "1..1", "1..1", "1111"} {
		want = with(want, 0, y, digit)
	}
	for i, sound := range []string{"sound on", "sound off"} {
		lines := append(slices.Clone(want), sound, "pitch 64", strings.Repeat(".", 128), "halted at 0208 cycle 4")
		if got := Record(result.Records[i]); !slices.Equal(got, lines) {
			t.Errorf("frame %d: %q", i, got)
		}
	}
	s.Profile.Level, s.ROM = api.Chip8, []byte{0x00, 0xFD}
	result, e = script.Run(s)
	if e != api.OK || len(result.Records) != 2 {
		t.Fatal(len(result.Records), e)
	}
	if got := Record(result.Records[1]); got[len(got)-1] != "faulted illegal at 0200 cycle 0" {
		t.Errorf("%q", got)
	}
}

// Way: lists of any elements are joined to new memory, in order.
func TestJoin(t *testing.T) {
	if l := join[int](); len(l) != 0 {
		t.Error(l)
	}
	first, second := append(make([]int, 0, 9), 1, 2), []int{3}
	l := join(first, nil, second, first)
	if !slices.Equal(l, []int{1, 2, 3, 1, 2}) {
		t.Error(l)
	}
	l[0] = 9
	if first[0] != 1 || first[:3][2] != 0 {
		t.Error("a list was changed")
	}
}
