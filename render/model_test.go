package render

import (
	"fmt"
	"math/big"
	"math/rand/v2"
	"strings"

	"cosmac/api"
	"cosmac/plane"
	"cosmac/row"
)

// screen is the planes of a screen.
type screen = [api.Planes]plane.Plane

// modelLines returns the lines of a screen: its pixels are read one by one, and its characters are made by the standard library.
func modelLines(planes screen, hires bool) []string {
	width, height := 64, 32
	if hires {
		width, height = 128, 64
	}
	lines := make([]string, height)
	for y := range lines {
		for x := range width {
			color := 0
			for i, value := range []int{1, 2, 4, 8} {
				if row.Get(planes[i].Rows[y], x) {
					color += value
				}
			}
			lines[y] += fmt.Sprintf("%X", color)
		}
		lines[y] = strings.ReplaceAll(lines[y], "0", ".")
	}
	return lines
}

// modelWave returns the wave of a pattern, from its digits as a binary number.
func modelWave(pattern [api.Pattern]byte) string {
	digits := fmt.Sprintf("%0128b", new(big.Int).SetBytes(pattern[:]))
	return strings.NewReplacer("0", ".", "1", "#").Replace(digits)
}

// modelStatus returns the text of a valid status.
func modelStatus(s api.Status) string {
	kind := []string{"running", "waiting", "halted", "faulted"}[s.Kind]
	cause := []string{"", " illegal", " overflow", " return", " range"}[s.Cause]
	if s.Kind < 2 {
		return kind
	}
	return fmt.Sprintf("%s%s at %04X cycle %d", kind, cause, s.PC, s.Cycle)
}

// modelEnd returns the last lines of a record.
func modelEnd(sound bool, pitch byte, pattern [api.Pattern]byte, s api.Status) []string {
	on := map[bool]string{true: "sound on", false: "sound off"}[sound]
	return []string{on, fmt.Sprintf("pitch %d", pitch), modelWave(pattern), modelStatus(s)}
}

// randomScreen returns planes of a resolution, with few or many pixels on each of them.
func randomScreen(g *rand.Rand, hires bool) screen {
	var planes screen
	width, height := plane.Size(hires)
	for i := range planes {
		chance := []int{0, 1, 8, 15, 16}[g.IntN(5)]
		for y := range height {
			for x := range width {
				planes[i].Rows[y] = row.Set(planes[i].Rows[y], x, g.IntN(16) < chance)
			}
		}
	}
	return planes
}

// randomPattern returns a pattern of random bytes.
func randomPattern(g *rand.Rand) [api.Pattern]byte {
	var pattern [api.Pattern]byte
	for i := range pattern {
		pattern[i] = byte(g.Uint32())
	}
	return pattern
}

// generator returns a generator of the same numbers in each run.
func generator(seed uint64) *rand.Rand { return rand.New(rand.NewPCG(seed, 24)) }
