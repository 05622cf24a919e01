package profile

import (
	"math"
	"strings"
	"testing"

	"cosmac/api"
)

// known is a profile with its number and its name, as the chapter defines them.
type known struct {
	p    api.Profile
	n    int
	name string
}

// allKnown returns all valid profiles, made without the functions of the package.
func allKnown() []known {
	var all []known
	for i, word := range []string{"chip8", "schip", "xochip"} {
		for set := range 128 {
			x := known{api.Profile{Level: i + 1}, i*128 + set, word}
			if set%2 == 1 {
				x.p.ShiftVY, x.name = true, x.name+"+shift"
			}
			if set/2%2 == 1 {
				x.p.KeepI, x.name = true, x.name+"+keep"
			}
			if set/4%2 == 1 {
				x.p.JumpVX, x.name = true, x.name+"+jump"
			}
			if set/8%2 == 1 {
				x.p.LogicReset, x.name = true, x.name+"+logic"
			}
			if set/16%2 == 1 {
				x.p.Clip, x.name = true, x.name+"+clip"
			}
			if set/32%2 == 1 {
				x.p.DisplayWait, x.name = true, x.name+"+wait"
			}
			if set/64%2 == 1 {
				x.p.Fault, x.name = true, x.name+"+fault"
			}
			all = append(all, x)
		}
	}
	return all
}

// allQuirks returns the profile of a level with all quirks.
func allQuirks(level int) api.Profile {
	return api.Profile{
		Level:       level,
		ShiftVY:     true,
		KeepI:       true,
		JumpVX:      true,
		LogicReset:  true,
		Clip:        true,
		DisplayWait: true,
		Fault:       true,
	}
}

// knownNames returns the profiles of all names.
func knownNames() map[string]api.Profile {
	names := map[string]api.Profile{}
	for _, x := range allKnown() {
		names[x.name] = x.p
	}
	return names
}

// invalid returns profiles whose levels are none, with no quirk, one quirk and all of them.
func invalid() []api.Profile {
	var all []api.Profile
	for _, level := range []int{0, -1, -2, -3, 4, 5, 128, 257, 65537, 1<<32 + 1, 1<<32 + 3, math.MinInt, math.MinInt + 1, math.MaxInt} {
		all = append(all,
			api.Profile{Level: level},
			api.Profile{Level: level, ShiftVY: true},
			api.Profile{Level: level, Fault: true},
			allQuirks(level))
	}
	return all
}

// checkParse checks the result of Parse against the names of the chapter.
func checkParse(t *testing.T, names map[string]api.Profile, s string) {
	t.Helper()
	want, found := names[s]
	wantErr := api.ErrForm
	if found {
		wantErr = api.OK
	}
	if p, err := Parse(s); p != want || err != wantErr {
		t.Errorf("Parse(%q) = %+v, %d, want %+v, %d", s, p, err, want, wantErr)
	}
}

// P2.1
func TestCount(t *testing.T) {
	if Count() != 384 || len(knownNames()) != 384 {
		t.Errorf("Count() = %d, want 384, the number of the %d names", Count(), len(knownNames()))
	}
}

// P2.1
func TestValid(t *testing.T) {
	for _, x := range allKnown() {
		if !Valid(x.p) {
			t.Errorf("Valid(%+v) = false", x.p)
		}
	}
	for _, p := range invalid() {
		if Valid(p) {
			t.Errorf("Valid(%+v) = true", p)
		}
	}
}

// P2.2
func TestAtEveryNumber(t *testing.T) {
	for _, x := range allKnown() {
		if p, err := At(x.n); p != x.p || err != api.OK {
			t.Errorf("At(%d) = %+v, %d, want %+v, OK", x.n, p, err, x.p)
		}
	}
}

// P2.2
func TestAtRejectsOtherNumbers(t *testing.T) {
	for _, n := range []int{-1, -2, -127, -128, -384, 384, 385, 511, 512, 65536, 1 << 32, 1<<32 + 1, math.MinInt, math.MaxInt} {
		if p, err := At(n); p != (api.Profile{}) || err != api.ErrArg {
			t.Errorf("At(%d) = %+v, %d, want a zero profile and ErrArg", n, p, err)
		}
	}
}

// P2.2
func TestNumberOfEveryProfile(t *testing.T) {
	for _, x := range allKnown() {
		if n, err := Number(x.p); n != x.n || err != api.OK {
			t.Errorf("Number(%+v) = %d, %d, want %d, OK", x.p, n, err, x.n)
		}
	}
}

// P2.2
func TestNumberRejectsOtherProfiles(t *testing.T) {
	for _, p := range invalid() {
		if n, err := Number(p); n != 0 || err != api.ErrArg {
			t.Errorf("Number(%+v) = %d, %d, want 0, ErrArg", p, n, err)
		}
	}
}

// P2.3
func TestNameOfEveryProfile(t *testing.T) {
	for _, x := range allKnown() {
		if name := Name(x.p); name != x.name {
			t.Errorf("Name(%+v) = %q, want %q", x.p, name, x.name)
		}
	}
}

// P2.3
func TestNameOfOtherProfiles(t *testing.T) {
	for _, p := range invalid() {
		if name := Name(p); name != "" {
			t.Errorf("Name(%+v) = %q, want an empty string", p, name)
		}
	}
}

// P2.2, P2.3
func TestExamples(t *testing.T) {
	for _, x := range []known{
		{api.Profile{Level: api.Chip8}, 0, "chip8"},
		{allQuirks(api.XOChip), 383, "xochip+shift+keep+jump+logic+clip+wait+fault"},
	} {
		if p, err := At(x.n); p != x.p || err != api.OK {
			t.Errorf("At(%d) = %+v, %d", x.n, p, err)
		}
		if n, err := Number(x.p); n != x.n || err != api.OK {
			t.Errorf("Number(%+v) = %d, %d", x.p, n, err)
		}
		if name := Name(x.p); name != x.name {
			t.Errorf("Name(%+v) = %q", x.p, name)
		}
		if p, err := Parse(x.name); p != x.p || err != api.OK {
			t.Errorf("Parse(%q) = %+v, %d", x.name, p, err)
		}
	}
}

// P2.3
func TestParseEveryName(t *testing.T) {
	for _, x := range allKnown() {
		if p, err := Parse(x.name); p != x.p || err != api.OK {
			t.Errorf("Parse(%q) = %+v, %d, want %+v, OK", x.name, p, err, x.p)
		}
	}
}

// P2.3
func TestParseRejectsNamedTexts(t *testing.T) {
	for _, s := range []string{
		"",                           // empty
		"+", "++", "+shift", "shift", // no level
		"chip", "chip9", "superchip", "xo", "8", "chip8chip8", "chip8schip", "chip8+schip", "schip8", // other levels
		"Chip8", "CHIP8", "chip8+SHIFT", "xochip+Fault", // capital letters
		"chip8+", "chip8++", "schip+shift+", "xochip+shift+keep+jump+logic+clip+wait+fault+", // trailing plus signs
		"chip8+keep+shift", "xochip+fault+wait", "schip+fault+shift", // out of order
		"chip8+shift+shift", "schip+fault+fault", "xochip+shift+keep+shift", // repeated
		"chip8+none", "chip8+shift+none", "chip8+shifts", "chip8+shif", "chip8+none+shift", // unknown
		"chip8++shift", "chip8+shift++keep", "chip8shift", "chip8+shiftkeep", // plus signs too many or too few
		" chip8", "chip8 ", "chip8 +shift", "chip8+ shift", "chip8\n", "chip8\x00", "\xffchip8", // other characters
		strings.Repeat("chip8", 10000), "chip8" + strings.Repeat("+shift", 10000), strings.Repeat("+", 100000), // long
	} {
		if p, err := Parse(s); p != (api.Profile{}) || err != api.ErrForm {
			t.Errorf("Parse(%.50q) = %+v, %d, want a zero profile and ErrForm", s, p, err)
		}
	}
}

// P2.3: of all short lists of words, only the names are accepted.
func TestParseListsOfWords(t *testing.T) {
	names := knownNames()
	words := []string{"", "shift", "keep", "jump", "logic", "clip", "wait", "fault", "none", "chip8"}
	texts := []string{"", "chip8", "schip", "xochip", "none"}
	for range 4 {
		var longer []string
		for _, s := range texts {
			checkParse(t, names, s)
			for _, word := range words {
				longer = append(longer, s+"+"+word)
			}
		}
		texts = longer
	}
}

// P2.3: a text that differs from a name in one byte is accepted only if it is a name itself.
func TestParseAroundNames(t *testing.T) {
	names := knownNames()
	for name := range names {
		for i := range len(name) + 1 {
			before, after := name[:i], name[i:]
			checkParse(t, names, before)
			checkParse(t, names, after)
			for _, c := range []string{"+", " ", "s", "x", "8", "P", "\x00", "\xff"} {
				checkParse(t, names, before+c+after)
				if after != "" {
					checkParse(t, names, before+c+after[1:])
				}
			}
			if after != "" {
				checkParse(t, names, before+after[1:])
			}
		}
	}
}
