package asm

import (
	"bytes"
	"math"
	"slices"
	"strings"
	"testing"

	"cosmac/api"
	"cosmac/decode"
)

const hexDigits = "0123456789ABCDEF"

// line is a line of the table of layer 14, with the text of its instructions, in which braces stand for digits of the opcode, or for the number that follows it (nnnn).
type line struct {
	pattern string
	text    string
	level   int
}

// table has the lines of all Ops, from 1 on.
var table = []line{
	{"00E0", "clear", 1}, {"00EE", "return", 1}, {"1NNN", "jump {nnn}", 1}, {"2NNN", "call {nnn}", 1},
	{"3XNN", "skip.eq V{x} {nn}", 1}, {"4XNN", "skip.ne V{x} {nn}", 1}, {"5XY0", "skip.eqv V{x} V{y}", 1},
	{"6XNN", "set V{x} {nn}", 1}, {"7XNN", "add V{x} {nn}", 1},
	{"8XY0", "move V{x} V{y}", 1}, {"8XY1", "or V{x} V{y}", 1}, {"8XY2", "and V{x} V{y}", 1},
	{"8XY3", "xor V{x} V{y}", 1}, {"8XY4", "addv V{x} V{y}", 1}, {"8XY5", "sub V{x} V{y}", 1},
	{"8XY6", "shr V{x} V{y}", 1}, {"8XY7", "subn V{x} V{y}", 1}, {"8XYE", "shl V{x} V{y}", 1},
	{"9XY0", "skip.nev V{x} V{y}", 1}, {"ANNN", "seti {nnn}", 1}, {"BNNN", "jumpadd {nnn}", 1}, {"CXNN", "random V{x} {nn}", 1},
	{"DXYN", "draw V{x} V{y} {n}", 1}, {"EX9E", "skip.key V{x}", 1}, {"EXA1", "skip.nokey V{x}", 1},
	{"FX07", "getdelay V{x}", 1}, {"FX0A", "waitkey V{x}", 1}, {"FX15", "setdelay V{x}", 1}, {"FX18", "setsound V{x}", 1},
	{"FX1E", "addi V{x}", 1}, {"FX29", "glyph V{x}", 1}, {"FX33", "decimal V{x}", 1}, {"FX55", "store V{x}", 1}, {"FX65", "load V{x}", 1},
	{"00CN", "down {n}", 2}, {"00FB", "right", 2}, {"00FC", "left", 2}, {"00FD", "exit", 2}, {"00FE", "lores", 2}, {"00FF", "hires", 2},
	{"DXY0", "drawbig V{x} V{y}", 2}, {"FX30", "bigglyph V{x}", 2}, {"FX75", "save V{x}", 2}, {"FX85", "restore V{x}", 2},
	{"00DN", "up {n}", 3}, {"5XY2", "storerange V{x} V{y}", 3}, {"5XY3", "loadrange V{x} V{y}", 3},
	{"F000", "longi {nnnn}", 3}, {"FN01", "planes {x}", 3}, {"F002", "pattern", 3}, {"FX3A", "pitch V{x}", 3},
}

// samples has an opcode for each line of the table; their digits differ where the lines leave them open.
var samples = []int{
	0x00E0, 0x00EE, 0x1ABC, 0x2012, 0x3A05, 0x4AFF, 0x5120, 0x6F10, 0x7E01, 0x8120, 0x8341, 0x8562, 0x8783, 0x89A4, 0x8BC5, 0x8DE6, 0x8F07, 0x812E,
	0x9340, 0xA123, 0xB423, 0xC10F, 0xD12F, 0xE19E, 0xE2A1, 0xF307, 0xF40A, 0xF515, 0xF618, 0xF71E, 0xF829, 0xF933, 0xFA55, 0xFB65,
	0x00C4, 0x00FB, 0x00FC, 0x00FD, 0x00FE, 0x00FF, 0xD120, 0xFC30, 0xF775, 0xF585, 0x00DA, 0x5982, 0x5763, 0xF000, 0xF301, 0xF002, 0xFD3A,
}

// nexts are numbers that follow an opcode.
var nexts = []int{0x0000, 0x0001, 0x00E0, 0x1234, 0x8000, 0xABCD, 0xF000, 0xFFFF}

// otherLevels are numbers that are no level.
var otherLevels = []int{0, -1, -2, -3, 4, 5, 7, 256, 257, 258, 259, -253, 65539, 1<<31 + 3, 1<<32 + 1, 1<<32 + 3, math.MinInt + 3, math.MinInt, math.MaxInt}

// hex returns the last digits of base 16 of a number.
func hex(n, digits int) string {
	text := ""
	for range digits {
		text = hexDigits[n&15:n&15+1] + text
		n >>= 4
	}
	return text
}

// codeOf returns an opcode and the number that follows it as bytes.
func codeOf(opcode, next int) [4]byte {
	return [4]byte{byte(opcode / 256), byte(opcode % 256), byte(next / 256), byte(next % 256)}
}

// fits reports whether an opcode is of the kind of a pattern of the table.
func fits(pattern, opcode string) bool {
	for i := range pattern {
		if strings.IndexByte(hexDigits, pattern[i]) >= 0 && opcode[i] != pattern[i] {
			return false
		}
	}
	return pattern != "DXYN" || opcode[3] != '0'
}

// model returns the text of what an opcode and the number that follows it are decoded to, and its length; or an empty text if that is illegal.
func model(opcode, next, level int) (string, int) {
	d := hex(opcode, 4)
	for _, l := range table {
		flags := l.pattern == "FX75" || l.pattern == "FX85"
		if !fits(l.pattern, d) || level < l.level || level > 3 || flags && level == 2 && d[1] > '7' {
			continue
		}
		n := 2
		if l.pattern == "F000" {
			n = 4
		}
		return strings.NewReplacer("{x}", d[1:2], "{y}", d[2:3], "{n}", d[3:], "{nn}", d[2:], "{nnn}", d[1:], "{nnnn}", hex(next, 4)).Replace(l.text), n
	}
	return "", 2
}

// every calls a function for all opcodes of all levels and of some numbers that are none, with some numbers that follow them.
func every(f func(b [4]byte, level int, text string, n int)) {
	for level := -1; level <= 5; level++ {
		for opcode := range 65536 {
			next := nexts[(opcode+opcode>>8+level+1)%len(nexts)]
			text, n := model(opcode, next, level)
			f(codeOf(opcode, next), level, text, n)
		}
	}
	for _, next := range nexts {
		text, n := model(0xF000, next, 3)
		f(codeOf(0xF000, next), 3, text, n)
	}
}

// texts returns the instructions of a level by their texts, of which the model has one for each.
func texts(level int) map[string]api.Instr {
	all := map[string]api.Instr{}
	for opcode := range 65536 {
		if text, _ := model(opcode, 0, level); text != "" {
			all[text] = decode.Decode(codeOf(opcode, 0), level)
		}
	}
	if level == 3 {
		for next := range 65536 {
			text, _ := model(0xF000, next, level)
			all[text] = api.Instr{Op: api.LongI, Addr: next, Len: 4}
		}
	}
	return all
}

// checkIllegal checks that an instruction has no bytes for a level.
func checkIllegal(t *testing.T, in api.Instr, level int) {
	t.Helper()
	if b, err := Encode(in, level); b != nil || err != api.ErrArg {
		t.Errorf("the bytes of %+v for the level %d are %X with the error %d", in, level, b, err)
	}
}

// checkWrong checks that a text is that of no instruction of a level.
func checkWrong(t *testing.T, s string, level int) {
	t.Helper()
	if in, err := Parse(s, level); in != (api.Instr{}) || err != api.ErrForm {
		t.Errorf("%q is parsed to %+v for the level %d, with the error %d", s, in, level, err)
	}
}

// P15.4: the chapter's examples.
func TestExamples(t *testing.T) {
	for level := 1; level <= 3; level++ {
		if got := List([]byte{0xD1, 0x23}, level); !slices.Equal(got, []string{"draw V1 V2 3"}) {
			t.Errorf("D1 23 is listed as %q for the level %d", got, level)
		}
		if got := List([]byte{0, 0}, level); !slices.Equal(got, []string{"data 0000"}) {
			t.Errorf("00 00 is listed as %q for the level %d", got, level)
		}
	}
}

// P15.1: all instructions have the bytes that are decoded to them; the illegal ones have none.
func TestEncode(t *testing.T) {
	every(func(b [4]byte, level int, text string, n int) {
		in := decode.Decode(b, level)
		if text == "" {
			checkIllegal(t, in, level)
			return
		}
		if got, err := Encode(in, level); !bytes.Equal(got, b[:n]) || err != api.OK {
			t.Fatalf("the bytes of %q are %X with the error %d for the level %d, want %X", text, got, err, level, b[:n])
		}
	})
}

// P15.1: an instruction of a higher level, or of one that does not exist, is not legal.
func TestEncodeOtherLevels(t *testing.T) {
	for i, opcode := range samples {
		in := decode.Decode(codeOf(opcode, 0xABCD), 3)
		for level := 1; level < table[i].level; level++ {
			checkIllegal(t, in, level)
		}
		for _, level := range otherLevels {
			checkIllegal(t, in, level)
		}
	}
	for x := 8; x < 16; x++ {
		checkIllegal(t, api.Instr{Op: api.SaveFlags, X: x, Len: 2}, 2)
		checkIllegal(t, api.Instr{Op: api.LoadFlags, X: x, Len: 2}, 2)
	}
}

// fieldsOf returns pointers to the fields of an instruction.
func fieldsOf(in *api.Instr) []*int {
	return []*int{&in.Op, &in.X, &in.Y, &in.N, &in.NN, &in.Addr, &in.Len}
}

// P15.1: an instruction with a field that is changed is legal only if some bytes are decoded to it.
func TestEncodeChangedField(t *testing.T) {
	changes := []int{1, -1, 2, -2, 3, 8, 15, 16, -16, 17, 32, 48, 51, 255, 256, -256, 4095, 4096, -4096, 8192, 65535, 65536, -65536, 1 << 20, 1 << 31, 1 << 32, -1 << 32, 1 << 40, 1 << 56, 1 << 60, math.MinInt}
	for level := 1; level <= 3; level++ {
		legal := map[api.Instr]bool{}
		for _, in := range texts(level) {
			legal[in] = true
		}
		for _, opcode := range slices.Concat(samples, []int{0x1000, 0x1FFF, 0x3000, 0x5000, 0x8FF0, 0xB000, 0xB0FF, 0xBF00, 0xBFFF, 0xD001, 0xDFFF, 0xD000, 0x00C0, 0x00DF, 0xFF01, 0xF001, 0xF775, 0xFF85, 0xFF3A}) {
			for field := range 7 {
				for _, change := range changes {
					in := decode.Decode(codeOf(opcode, 0xABCD), level)
					*fieldsOf(&in)[field] += change
					if b, err := Encode(in, level); legal[in] != (err == api.OK) || legal[in] && decode.Decode([4]byte(append(b, 0, 0, 0, 0)), level) != in {
						t.Fatalf("the bytes of %+v for the level %d are %X with the error %d", in, level, b, err)
					} else if !legal[in] {
						checkIllegal(t, in, level)
					}
				}
			}
		}
	}
}

// P15.1: instructions that are nearly legal.
func TestEncodeIllegal(t *testing.T) {
	for _, in := range []api.Instr{
		{}, {Len: 2}, {Len: 4}, {Op: 52, Len: 2}, {Op: -1, Len: 2}, {Op: math.MinInt, Len: 2}, {Op: math.MaxInt, Len: 2}, {Op: 1<<32 + 1, Len: 2}, {Op: 257, Len: 2},
		{Op: api.Clear}, {Op: api.Clear, Len: 4}, {Op: api.Clear, Len: -2}, {Op: api.Clear, X: 1, Len: 2}, {Op: api.Clear, Addr: 0xE0, Len: 2}, {Op: api.Clear, NN: 0xE0, Len: 2},
		{Op: api.Draw, X: 1, Y: 2, Len: 2}, {Op: api.DrawBig, X: 1, Y: 2, N: 1, Len: 2},
		{Op: api.JumpAdd, X: 1, Addr: 0x234, Len: 2}, {Op: api.JumpAdd, Addr: 0x234, Len: 2}, {Op: api.JumpAdd, X: 2, Addr: 0x34, Len: 2}, {Op: api.Jump, X: 2, Addr: 0x234, Len: 2},
		{Op: api.LongI, Addr: 65536, Len: 4}, {Op: api.LongI, Addr: -1, Len: 4}, {Op: api.LongI, Addr: 1, Len: 2}, {Op: api.LongI, N: 1, Len: 4},
		{Op: api.SetPlanes, X: 1, Len: 2}, {Op: api.SetPlanes, X: 1, N: 1, Len: 2}, {Op: api.SetPlanes, N: 16, Len: 2}, {Op: api.SetPlanes, N: -1, Len: 2},
		{Op: api.SetNN, X: 16, Len: 2}, {Op: api.SetNN, NN: 256, Len: 2}, {Op: api.SetNN, NN: -1, Len: 2}, {Op: api.SetNN, X: -1, Len: 2}, {Op: api.SetNN, X: 1, N: 1, Len: 2},
	} {
		for level := -1; level <= 5; level++ {
			checkIllegal(t, in, level)
		}
		if got := Text(in); got != "" {
			t.Errorf("the text of %+v is %q", in, got)
		}
	}
}

// P15.1: the bytes are new memory.
func TestEncodeTwice(t *testing.T) {
	in := api.Instr{Op: api.LongI, Addr: 0x1234, Len: 4}
	first, _ := Encode(in, 3)
	clear(first[:cap(first)])
	if second, err := Encode(in, 3); !bytes.Equal(second, []byte{0xF0, 0x00, 0x12, 0x34}) || err != api.OK {
		t.Errorf("the bytes are %X after others were changed", second)
	}
}

// P15.2: the texts of all instructions, whatever level they were decoded for, and of the illegal ones.
func TestText(t *testing.T) {
	every(func(b [4]byte, level int, text string, _ int) {
		if got := Text(decode.Decode(b, level)); got != text {
			t.Fatalf("the text of %X is %q for the level %d, want %q", b, got, level, text)
		}
	})
}

// P15.2: the words of all Ops, and the digits of their operands.
func TestTextWords(t *testing.T) {
	for i, want := range strings.Split("clear,return,jump ABC,call 012,skip.eq VA 05,skip.ne VA FF,skip.eqv V1 V2,set VF 10,add VE 01,move V1 V2,or V3 V4,and V5 V6,xor V7 V8,addv V9 VA,sub VB VC,"+
		"shr VD VE,subn VF V0,shl V1 V2,skip.nev V3 V4,seti 123,jumpadd 423,random V1 0F,draw V1 V2 F,skip.key V1,skip.nokey V2,getdelay V3,waitkey V4,setdelay V5,setsound V6,addi V7,glyph V8,decimal V9,"+
		"store VA,load VB,down 4,right,left,exit,lores,hires,drawbig V1 V2,bigglyph VC,save V7,restore V5,up A,storerange V9 V8,loadrange V7 V6,longi 0BCD,planes 3,pattern,pitch VD", ",") {
		in := decode.Decode(codeOf(samples[i], 0x0BCD), 3)
		if got := Text(in); got != want || in.Op != i+1 {
			t.Errorf("the text of the Op %d is %q, want %q", in.Op, got, want)
		}
	}
}

// P15.2: all texts are parsed for those levels for which they are texts of instructions.
func TestParse(t *testing.T) {
	all := texts(3)
	if len(all) < 65536 {
		t.Fatalf("there are %d texts", len(all))
	}
	for level := -1; level <= 5; level++ {
		legal := texts(level)
		for text := range all {
			want, found := legal[text]
			if !found {
				checkWrong(t, text, level)
			} else if got, err := Parse(text, level); got != want || err != api.OK {
				t.Fatalf("%q is parsed to %+v with the error %d for the level %d, want %+v", text, got, err, level, want)
			}
		}
	}
}

// P15.2: texts that differ in one character from that of an instruction are parsed only if they are one too.
func TestParseChangedText(t *testing.T) {
	const characters = " 0129AFGVafgv.+-_x\n\t\x00\xff"
	all := texts(3)
	check := func(s string) {
		want, found := all[s]
		if !found {
			checkWrong(t, s, 3)
		} else if got, err := Parse(s, 3); got != want || err != api.OK {
			t.Errorf("%q is parsed to %+v with the error %d, want %+v", s, got, err, want)
		}
	}
	for _, opcode := range samples {
		text, _ := model(opcode, 0x0BCD, 3)
		for i := range len(text) + 1 {
			for c := range len(characters) {
				check(text[:i] + characters[c:c+1] + text[i:])
				if i < len(text) {
					check(text[:i] + characters[c:c+1] + text[i+1:])
				}
			}
			if i < len(text) {
				check(text[:i] + text[i+1:])
			}
		}
		check(text + " " + text)
		check(strings.ToUpper(text))
		check(strings.ToLower(text))
	}
}

// P15.2: texts of no instruction.
func TestParseWrong(t *testing.T) {
	for _, s := range []string{
		"", " ", "  ", "\n", "data", "data 0000", "data 00E0", "illegal", "Clear", "CLEAR", "clear ", " clear", "clear\n", "clear\t", "clear 0", "clear V0", "clearv", "clea",
		"draw", "draw V1", "draw V1 V2", "draw V1 V2 0", "draw 1 2 3", "draw V1 V2 3 4", "draw  V1 V2 3", "draw V1  V2 3", "draw V1 V2 3 ", "draw V1 V2 03", "draw V1 V2 V3", "draw V2 3", "draw\tV1\tV2\t3", "draw V1,V2,3",
		"drawbig V1 V2 0", "drawbig V1 V2 1", "set V1 F", "set V1 0f", "set V1 00F", "set VG 00", "set VV1 00", "set V 00", "set V01 00", "set V10 00", "set v1 00", "set va 00", "set V1 +1", "set V1 -1", "set V1 0x", "set V1 _1", "set V1 1_", "set V1", "set 00", "set V1 ",
		"jump", "jump ", "jump 1ABC", "jump 12", "jump 0x1", "jump +12", "jump 1_2", "jump -12", "jump abc", "jump V1 23", "jumpadd V4 423", "jumpadd V423", "jumpadd 4 23", "jumpadd 0423",
		"longi 123", "longi 12345", "longi 01234", "longi 10000", "longi abcd", "longi FFFF0000FFFF0000FFFF", "longi 18446744073709551616", "up G", "up 00", "up V1", "down", "down 10", "planes V3", "planes 03", "planes", "planes 3 3", "pattern 0", "pitch 1", "pitch",
		"save V8 ", "save V16", "save 1", "restore", "skip", "skip.", "skip.eq", "skip.eq V1 V2", "skip.eqv V1 02", "skip.eqv V1", "store V1 V2", "storerange V1", "load V1 V2",
		"set V\u0661 00", "set \uff261 00", "jump \uff11\uff12\uff13", "clear\u00a0", "clear\xff", "\xff", "jump 1\xff3", "set V\xff 00", "add\u2003V1 01", "\ufeffclear", "clear\x00",
	} {
		for level := -1; level <= 5; level++ {
			checkWrong(t, s, level)
		}
	}
	for _, s := range []string{strings.Repeat(" ", 100000), "jump " + strings.Repeat("0", 100000) + "1", strings.Repeat("clear ", 10000), strings.Repeat("V", 100000)} {
		checkWrong(t, s, 3)
	}
}

// P15.2: texts of instructions of other levels, and numbers that are no level.
func TestParseOtherLevels(t *testing.T) {
	for i, opcode := range samples {
		text, _ := model(opcode, 0xABCD, 3)
		for level := 1; level < table[i].level; level++ {
			checkWrong(t, text, level)
		}
		for _, level := range otherLevels {
			checkWrong(t, text, level)
		}
	}
	checkWrong(t, "save V8", 2)
	checkWrong(t, "restore VF", 2)
}

// P15.3: lines of all kinds, one after the other.
func TestAssemble(t *testing.T) {
	for level := 1; level <= 3; level++ {
		var lines []string
		var want []byte
		for i, opcode := range samples {
			for range 2 {
				if text, n := model(opcode, nexts[i%len(nexts)], level); text != "" {
					b := codeOf(opcode, nexts[i%len(nexts)])
					lines, want = append(lines, text), append(want, b[:n]...)
				}
			}
		}
		given := slices.Clone(lines)
		if got, n, err := Assemble(lines, level); !bytes.Equal(got, want) || n != 0 || err != api.OK {
			t.Errorf("the bytes are %X, with %d and the error %d for the level %d, want %X", got, n, err, level, want)
		}
		if !slices.Equal(lines, given) {
			t.Errorf("the lines were changed to %q", lines)
		}
	}
}

// P15.3: the first line that is not parsed, wherever it is.
func TestAssembleWrong(t *testing.T) {
	for _, c := range []struct {
		lines []string
		level int
		n     int
	}{
		{[]string{""}, 3, 0}, {[]string{"data 0000"}, 3, 0}, {[]string{"clear", ""}, 3, 1}, {[]string{"", "clear"}, 3, 0}, {[]string{"clear", "exit"}, 1, 1}, {[]string{"exit", "up 1", "clear"}, 2, 1},
		{[]string{"clear", "x", "y"}, 3, 1}, {[]string{"longi 0200", "longi 0200", "longi 200", "longi 20"}, 3, 2}, {[]string{"longi 0200"}, 2, 0},
		{[]string{"clear", "clear", "clear", "save V8"}, 2, 3}, {[]string{"clear"}, 0, 0}, {[]string{"clear"}, 4, 0}, {[]string{"clear\nclear"}, 3, 0}, {[]string{"clear", "clear clear"}, 3, 1},
	} {
		if b, n, err := Assemble(c.lines, c.level); b != nil || n != c.n || err != api.ErrForm {
			t.Errorf("%q: the bytes are %X, with %d and the error %d for the level %d, want %d", c.lines, b, n, err, c.level, c.n)
		}
	}
	for wrong := range 20 {
		lines := slices.Repeat([]string{"longi 1234"}, 20)
		lines[wrong] = "longi"
		if b, n, err := Assemble(lines, 3); b != nil || n != wrong || err != api.ErrForm {
			t.Errorf("the bytes are %X, with %d and the error %d, want %d", b, n, err, wrong)
		}
	}
}

// P15.3: no lines have no bytes, for all levels.
func TestAssembleNothing(t *testing.T) {
	for _, level := range slices.Concat(otherLevels, []int{1, 2, 3}) {
		for _, lines := range [][]string{nil, {}} {
			if b, n, err := Assemble(lines, level); len(b) != 0 || n != 0 || err != api.OK {
				t.Errorf("no lines have the bytes %X, with %d and the error %d", b, n, err)
			}
		}
	}
}

// listModel lists bytes as the chapter says it.
func listModel(b []byte, level int) []string {
	var lines []string
	for len(b) > 1 {
		var four [4]byte
		copy(four[:], b)
		text, n := model(int(four[0])*256+int(four[1]), int(four[2])*256+int(four[3]), level)
		if text == "" || n > len(b) {
			text, n = "data "+hex(int(four[0]), 2)+hex(int(four[1]), 2), 2
		}
		lines, b = append(lines, text), b[n:]
	}
	if len(b) == 1 {
		lines = append(lines, "data "+hex(int(b[0]), 2))
	}
	return lines
}

// P15.4: all opcodes, one after the other.
func TestListEveryOpcode(t *testing.T) {
	var b []byte
	for opcode := range 65536 {
		b = append(b, byte(opcode/256), byte(opcode%256))
	}
	for level := -1; level <= 5; level++ {
		for _, from := range []int{0, 1} {
			if got, want := List(b[from:], level), listModel(b[from:], level); !slices.Equal(got, want) {
				t.Errorf("all opcodes have %d lines for the level %d, want %d other ones", len(got), level, len(want))
			}
		}
	}
}

// P15.4: opcodes of all kinds with less and more bytes than they need.
func TestListShort(t *testing.T) {
	for _, opcode := range slices.Concat(samples, []int{0x0000, 0x5121, 0x8128, 0xD120, 0xF100, 0xF875, 0xFFFF}) {
		for _, next := range nexts {
			for level := -1; level <= 5; level++ {
				b := codeOf(opcode, next)
				for n := range 5 {
					if got, want := List(b[:n], level), listModel(b[:n], level); !slices.Equal(got, want) {
						t.Errorf("%X is listed as %q for the level %d, want %q", b[:n], got, level, want)
					}
				}
			}
		}
	}
}

// P15.4: bytes at the end, and long instructions that are cut off there.
func TestListEnds(t *testing.T) {
	for _, c := range []struct {
		b     []byte
		level int
		want  []string
	}{
		{nil, 3, nil}, {[]byte{}, 3, nil}, {[]byte{0x00}, 3, []string{"data 00"}}, {[]byte{0x12}, 3, []string{"data 12"}}, {[]byte{0xFF}, 1, []string{"data FF"}}, {[]byte{0x0A}, 2, []string{"data 0A"}},
		{[]byte{0x00, 0xE0, 0x00}, 1, []string{"clear", "data 00"}}, {[]byte{0x00, 0xE0, 0xA0}, 1, []string{"clear", "data A0"}}, {[]byte{0x00, 0x00, 0xE0}, 1, []string{"data 0000", "data E0"}},
		{[]byte{0xF0}, 3, []string{"data F0"}}, {[]byte{0xF0, 0x00}, 3, []string{"data F000"}}, {[]byte{0xF0, 0x00, 0x12}, 3, []string{"data F000", "data 12"}}, {[]byte{0xF0, 0x00, 0x12, 0x34}, 3, []string{"longi 1234"}},
		{[]byte{0xF0, 0x00, 0x12, 0x34, 0x12}, 3, []string{"longi 1234", "data 12"}}, {[]byte{0xF0, 0x00, 0xF0, 0x00, 0x12, 0x34}, 3, []string{"longi F000", "jump 234"}}, {[]byte{0xF0, 0x00, 0xF0, 0x00, 0xF0, 0x00}, 3, []string{"longi F000", "data F000"}},
		{[]byte{0x00, 0xF0, 0x00, 0x00, 0xE0}, 3, []string{"data 00F0", "data 0000", "data E0"}}, {[]byte{0xF0, 0x00, 0x00, 0xE0}, 2, []string{"data F000", "clear"}}, {[]byte{0xF0, 0x00, 0x12}, 1, []string{"data F000", "data 12"}},
		{[]byte{0xD1, 0x20, 0x00, 0xFD}, 1, []string{"data D120", "data 00FD"}}, {[]byte{0xD1, 0x20, 0x00, 0xFD}, 2, []string{"drawbig V1 V2", "exit"}}, {[]byte{0xF8, 0x75, 0xF7, 0x75}, 2, []string{"data F875", "save V7"}},
		{[]byte{0x00, 0xE0, 0x12}, 0, []string{"data 00E0", "data 12"}}, {[]byte{0xF0, 0x00, 0x12, 0x34}, 4, []string{"data F000", "data 1234"}},
	} {
		given := slices.Clone(c.b)
		if got := List(c.b, c.level); !slices.Equal(got, c.want) {
			t.Errorf("%X is listed as %q for the level %d, want %q", c.b, got, c.level, c.want)
		}
		if !bytes.Equal(c.b, given) {
			t.Errorf("%X was changed to %X", given, c.b)
		}
	}
}

// P15.4: what is in the memory behind the end of the bytes is not read.
func TestListCapacity(t *testing.T) {
	all := []byte{0xF0, 0x00, 0x12, 0x34}
	for n, want := range [][]string{nil, {"data F0"}, {"data F000"}, {"data F000", "data 12"}, {"longi 1234"}} {
		if got := List(all[:n], 3); !slices.Equal(got, want) {
			t.Errorf("%X is listed as %q, want %q", all[:n], got, want)
		}
	}
	if !bytes.Equal(all, []byte{0xF0, 0x00, 0x12, 0x34}) {
		t.Errorf("the bytes were changed to %X", all)
	}
}

// scattered returns n bytes that follow a rule but seem not to; many of them begin an instruction or are zeros.
func scattered(n, seed int) []byte {
	heads := []byte{0x00, 0xF0, 0x00, 0xE0, 0xF0, 0xD1, 0xF3, 0x01, 0xFD, 0xC0}
	b := make([]byte, n)
	state := uint32(seed)*2654435761 + 1
	for i := range b {
		state = state*1664525 + 1013904223
		b[i] = byte(state >> 24)
		if state>>16&3 == 0 {
			b[i] = heads[int(state>>8&255)%len(heads)]
		}
	}
	return b
}

// P15.4: bytes of all kinds.
func TestListScattered(t *testing.T) {
	for seed := range 200 {
		b := scattered(seed*3, seed)
		for level := -1; level <= 5; level++ {
			if got, want := List(b, level), listModel(b, level); !slices.Equal(got, want) {
				t.Fatalf("%X is listed as %q for the level %d, want %q", b, got, level, want)
			}
		}
	}
}

// P15.5: all lines of instructions are assembled and listed as the same lines.
func TestAssembleAndList(t *testing.T) {
	for level := 1; level <= 3; level++ {
		var lines []string
		for i := range 65536 {
			opcode := i * 40503 % 65536
			if i%7 == 0 {
				opcode = 0xF000
			}
			if text, _ := model(opcode, i, level); text != "" {
				lines = append(lines, text)
			}
		}
		b, n, err := Assemble(lines, level)
		if n != 0 || err != api.OK {
			t.Fatalf("the line %d is not parsed for the level %d: the error is %d", n, level, err)
		}
		if got := List(b, level); !slices.Equal(got, lines) {
			t.Errorf("%d lines of the level %d are listed as %d other ones", len(lines), level, len(got))
		}
	}
}
