package record

import (
	"bytes"
	"encoding/binary"
	"math/rand/v2"

	"cosmac/api"
	"cosmac/frame"
	"cosmac/plane"
	"cosmac/row"
)

// modelValid reports whether a record is valid: it looks for pixels that are outside, one by one.
func modelValid(r frame.Record) bool {
	width, height := 64, 32
	if r.Hires {
		width, height = 128, 64
	}
	for _, p := range r.Planes {
		for y := range 64 {
			first := width
			if y >= height {
				first = 0
			}
			for x := first; x < 128; x++ {
				if p.Rows[y] != (row.Row{}) && row.Get(p.Rows[y], x) {
					return false
				}
			}
		}
	}
	return modelStatus(r.Status)
}

// modelStatus reports whether a status is one of a valid record.
func modelStatus(s api.Status) bool {
	zero := s.PC == 0 && s.Cycle == 0
	inside := 0 <= s.PC && s.PC <= 65535 && 0 <= s.Cycle && s.Cycle <= 4611686018427387904
	fault := s.Cause == 1 || s.Cause == 2 || s.Cause == 3 || s.Cause == 4
	switch s.Kind {
	case 0, 1:
		return zero && s.Cause == 0
	case 2:
		return inside && s.Cause == 0
	case 3:
		return inside && fault
	default:
		return false
	}
}

// modelEncode returns the encoding of a list of valid records, with the numbers written by the standard library.
func modelEncode(l []frame.Record) []byte {
	order := binary.BigEndian
	b := order.AppendUint32([]byte("C8R1"), uint32(len(l)))
	for _, r := range l {
		flags := byte(0)
		if r.Hires {
			flags++
		}
		if r.Sound {
			flags += 2
		}
		b = append(b, flags, r.Pitch)
		b = append(b, r.Pattern[:]...)
		b = append(b, byte(r.Status.Kind), byte(r.Status.Cause))
		b = order.AppendUint16(b, uint16(r.Status.PC))
		b = order.AppendUint64(b, uint64(r.Status.Cycle))
		var rows []row.Row
		planes := byte(0)
		for i, value := range []byte{1, 2, 4, 8} {
			if plane.Count(r.Planes[i]) > 0 {
				planes += value
				rows = append(rows, r.Planes[i].Rows[:]...)
			}
		}
		b = append(b, planes)
		for _, pixels := range rows {
			b = order.AppendUint64(order.AppendUint64(b, pixels.High), pixels.Low)
		}
	}
	return b
}

// modelDecode returns the list with an encoding, and false if there is none: it reads bytes without any check, and encodes the result.
func modelDecode(b []byte) ([]frame.Record, bool) {
	var l []frame.Record
	in := bytes.NewReader(b)
	in.Seek(8, 0)
	for in.Len() > 0 {
		var h struct {
			Flags, Pitch uint8
			Pattern      [16]byte
			Kind, Cause  uint8
			PC           uint16
			Cycle        int64
			Planes       uint8
		}
		if binary.Read(in, binary.BigEndian, &h) != nil {
			return nil, false
		}
		r := frame.Record{Hires: h.Flags%2 == 1, Sound: h.Flags/2%2 == 1, Pattern: h.Pattern, Pitch: h.Pitch}
		r.Status = api.Status{Kind: int(h.Kind), Cause: api.Errno(h.Cause), PC: int(h.PC), Cycle: int(h.Cycle)}
		for i, value := range []uint8{1, 2, 4, 8} {
			if h.Planes/value%2 == 1 && binary.Read(in, binary.BigEndian, &r.Planes[i].Rows) != nil {
				return nil, false
			}
		}
		if !modelValid(r) {
			return nil, false
		}
		l = append(l, r)
	}
	return l, bytes.Equal(modelEncode(l), b)
}

// randomRecord returns a valid record; planes are often without pixels, and otherwise have a few, many, or all of them.
func randomRecord(g *rand.Rand) frame.Record {
	r := frame.Record{Hires: g.IntN(2) == 1, Sound: g.IntN(2) == 1, Pitch: byte(g.Uint32())}
	for i := range r.Pattern {
		r.Pattern[i] = byte(g.Uint32())
	}
	for i := range r.Planes {
		r.Planes[i] = randomPlane(g, r.Hires)
	}
	r.Status.Kind = g.IntN(4)
	if r.Status.Kind >= api.Halted {
		r.Status.PC = g.IntN(65536)
		r.Status.Cycle = int(g.Uint64() >> (2 + g.IntN(62)))
	}
	if r.Status.Kind == api.Faulted {
		r.Status.Cause = api.Errno(1 + g.IntN(4))
	}
	return r
}

// randomPlane returns a plane of a resolution.
func randomPlane(g *rand.Rand, hires bool) plane.Plane {
	var p plane.Plane
	width, height := plane.Size(hires)
	chance := []int{0, 0, 2, width * height / 2, width * height}[g.IntN(5)]
	for y := range height {
		for x := range width {
			p.Rows[y] = row.Set(p.Rows[y], x, g.IntN(width*height) < chance)
		}
	}
	return p
}

// randomList returns a list of n valid records.
func randomList(g *rand.Rand, n int) []frame.Record {
	l := make([]frame.Record, n)
	for i := range l {
		l[i] = randomRecord(g)
	}
	return l
}

// generator returns a generator of the same numbers in each run.
func generator(seed uint64) *rand.Rand { return rand.New(rand.NewPCG(seed, 23)) }
