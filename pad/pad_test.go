package pad

import (
	"math/rand"
	"testing"

	"whirligig/api"
)

// The keys' bits.
const (
	right = 1 << iota
	left
	up
	down
	keyA
	keyB
	choose
	start
)

// What Sel is, by the rows that are asked.
const (
	both   = 0
	second = 16 // A, B, select, start
	first  = 32 // right, left, up, down
	none   = 48
)

// digit is a number's binary digit.
func digit(v, place int) int {
	for range place {
		v /= 2
	}
	return v % 2
}

// seen is what Lines must answer, by the chapter's words, line for line.
func seen(sel, keys uint8) uint8 {
	lines, worth := 0, 1
	for k := range 4 {
		inFirst := digit(int(sel), 4) == 0 && digit(int(keys), k) == 1
		inSecond := digit(int(sel), 5) == 0 && digit(int(keys), 4+k) == 1
		if !inFirst && !inSecond {
			lines += worth
		}
		worth *= 2
	}
	return uint8(lines)
}

// asks tells, by the chapter's words, whether a line is 0 that was 1.
func asks(last, lines uint8) bool {
	for k := range 4 {
		if digit(int(lines), k) == 0 && digit(int(last), k) == 1 {
			return true
		}
	}
	return false
}

// P13.1, R5: each Sel, wider ones too, with all keys; Last plays no part.
func TestLines(t *testing.T) {
	for sel := range 256 {
		for keys := range 256 {
			want := seen(uint8(sel), uint8(keys))
			for _, last := range []uint8{0, 5, 15, 240, 255} {
				if got := Lines(api.Pad{Sel: uint8(sel), Last: last}, uint8(keys)); got != want {
					t.Fatalf("Sel %d, Last %d, keys %08b: %04b, not %04b", sel, last, keys, got, want)
				}
			}
		}
	}
}

// P13.1: written out, each key at its line.
func TestLinesByHand(t *testing.T) {
	for _, w := range []struct{ sel, keys, want uint8 }{
		{first, right, 14}, {first, left, 13}, {first, up, 11}, {first, down, 7},
		{first, keyA, 15}, {first, keyB, 15}, {first, choose, 15}, {first, start, 15},
		{second, keyA, 14}, {second, keyB, 13}, {second, choose, 11}, {second, start, 7},
		{second, right, 15}, {second, left, 15}, {second, up, 15}, {second, down, 15},
		{both, right, 14}, {both, keyA, 14}, {both, right | keyA, 14},
		{both, down | keyA, 6}, {both, left | choose, 9}, {both, right | left | choose | start, 0},
		{none, 255, 15}, {first, 255, 0}, {second, 255, 0}, {both, 255, 0},
		{first, 0, 15}, {second, 0, 15}, {both, 0, 15}, {none, 0, 15},
		{first, 240, 15}, {second, 15, 15}, {first, 245, 10}, {second, 175, 5},
		// Only the bits 5 and 4 tell what is asked.
		{first | 207, right, 14}, {second | 207, start, 7}, {207, down | keyA, 6}, {255, 255, 15},
	} {
		if got := Lines(api.Pad{Sel: w.sel}, w.keys); got != w.want {
			t.Errorf("Sel %d, keys %08b: %04b, not %04b", w.sel, w.keys, got, w.want)
		}
	}
}

// P13.1, R5: each Sel with all keys; Last plays no part.
func TestRead(t *testing.T) {
	for sel := range 256 {
		for keys := range 256 {
			want := uint8(192 + 32*digit(sel, 5) + 16*digit(sel, 4) + int(seen(uint8(sel), uint8(keys))))
			for _, last := range []uint8{0, 10, 15, 255} {
				if got := Read(api.Pad{Sel: uint8(sel), Last: last}, uint8(keys)); got != want {
					t.Fatalf("Sel %d, Last %d, keys %08b: %d, not %d", sel, last, keys, got, want)
				}
			}
		}
	}
}

// P13.1: written out, the chapter's examples first.
func TestReadByHand(t *testing.T) {
	for _, w := range []struct{ sel, keys, want uint8 }{
		{first, right, 238}, {none, 0, 255}, {none, 255, 255},
		{first, 0, 239}, {second, 0, 223}, {both, 0, 207},
		{first, 255, 224}, {second, 255, 208}, {both, 255, 192},
		{second, start | right, 215}, {both, down | keyA, 198},
		{15, 0, 207}, {207, 255, 192}, {192, 0, 207}, {255, 1, 255},
	} {
		if got := Read(api.Pad{Sel: w.sel}, w.keys); got != w.want {
			t.Errorf("Sel %d, keys %08b: %d, not %d", w.sel, w.keys, got, w.want)
		}
	}
}

// P13.1, R5: each byte, whatever Sel was; Last stays.
func TestWrite(t *testing.T) {
	for v := range 256 {
		for sel := range 256 {
			for _, last := range []uint8{0, 9, 15, 16, 255} {
				want := api.Pad{Sel: uint8(32*digit(v, 5) + 16*digit(v, 4)), Last: last}
				if got := Write(api.Pad{Sel: uint8(sel), Last: last}, uint8(v)); got != want {
					t.Fatalf("%d to Sel %d, Last %d: %+v, not %+v", v, sel, last, got, want)
				}
			}
		}
	}
}

// P13.1: written out.
func TestWriteByHand(t *testing.T) {
	for v, want := range map[uint8]uint8{
		0: both, 15: both, 16: second, 31: second, 32: first, 47: first, 48: none, 63: none,
		64: both, 128: both, 192: both, 207: both, 223: second, 239: first, 255: none,
	} {
		if got := Write(api.Pad{Sel: 99, Last: 6}, v); got != (api.Pad{Sel: want, Last: 6}) {
			t.Errorf("%d: %+v, not Sel %d", v, got, want)
		}
	}
}

// P13.1: what was written is read, with the two bits above it.
func TestWrittenIsRead(t *testing.T) {
	for v := range 256 {
		if got := Read(Write(api.Pad{Sel: 255, Last: 3}, uint8(v)), 0); got != uint8(v)|207 {
			t.Errorf("%d: %d", v, got)
		}
	}
}

// P13.2, R5: each Last with each Sel and all keys; Sel stays.
func TestStep(t *testing.T) {
	var asked [16][16]bool
	for last := range 16 {
		for lines := range 16 {
			asked[last][lines] = asks(uint8(last), uint8(lines))
		}
	}
	for sel := range 256 {
		for keys := range 256 {
			want := api.Pad{Sel: uint8(sel), Last: seen(uint8(sel), uint8(keys))}
			for last := range 256 {
				got, ask := Step(api.Pad{Sel: uint8(sel), Last: uint8(last)}, uint8(keys))
				if got != want || ask != asked[last%16][want.Last] {
					t.Fatalf("Sel %d, Last %d, keys %08b: %+v, %v, not %+v", sel, last, keys, got, ask, want)
				}
			}
		}
	}
}

// P13.2: written out, the chapter's examples first.
func TestStepByHand(t *testing.T) {
	for _, w := range []struct {
		sel, last, keys, lines uint8
		asked                  bool
	}{
		{first, 15, right, 14, true},
		{first, 14, right, 14, false},
		// A key that is let go asks for nothing, nor does one that isn't asked.
		{first, 14, 0, 15, false},
		{first, 15, keyA, 15, false},
		{none, 15, 255, 15, false},
		// One more beside one that is held; one in place of another.
		{first, 14, right | left, 12, true},
		{first, 14, left, 13, true},
		{first, 12, right, 14, false},
		// The other row's key at a line that is 0 already.
		{both, 14, right | keyA, 14, false},
		{both, 14, keyA, 14, false},
		{both, 14, right | keyB, 12, true},
		// All lines at once.
		{both, 15, 255, 0, true},
		{both, 0, 255, 0, false},
		{both, 0, 0, 15, false},
		// Of a wide Last only the four low bits tell.
		{both, 240, 255, 0, false},
		{none, 255, 255, 15, false},
		{first, 254, right, 14, false},
		{first, 241, right, 14, true},
		{first | 207, 31, down, 7, true},
	} {
		got, asked := Step(api.Pad{Sel: w.sel, Last: w.last}, w.keys)
		if got != (api.Pad{Sel: w.sel, Last: w.lines}) || asked != w.asked {
			t.Errorf("Sel %d, Last %d, keys %08b: %+v, %v", w.sel, w.last, w.keys, got, asked)
		}
	}
}

// P13.3: while no row is asked, no key is seen.
func TestNoRow(t *testing.T) {
	for keys := range 256 {
		p := Write(api.Pad{Last: 15}, none)
		if got := Lines(p, uint8(keys)); got != 15 {
			t.Errorf("keys %08b: %04b", keys, got)
		}
		if got, asked := Step(p, uint8(keys)); got != p || asked {
			t.Errorf("keys %08b: %+v, %v", keys, got, asked)
		}
	}
}

// P13.3: with both asked a line is 0, where it is in either.
func TestBothRows(t *testing.T) {
	for keys := range 256 {
		k := uint8(keys)
		want := Lines(api.Pad{Sel: first}, k) & Lines(api.Pad{Sel: second}, k)
		if got := Lines(api.Pad{Sel: both}, k); got != want {
			t.Errorf("keys %08b: %04b, not %04b", keys, got, want)
		}
	}
}

// P13.3: keys that stay held ask once at most, in the first cycle.
func TestStaysHeld(t *testing.T) {
	for sel := range 256 {
		for keys := range 256 {
			p := api.Pad{Sel: uint8(sel), Last: 15}
			for n := range 5 {
				var asked bool
				p, asked = Step(p, uint8(keys))
				if want := n == 0 && seen(uint8(sel), uint8(keys)) != 15; asked != want {
					t.Fatalf("Sel %d, keys %08b, cycle %d: %v", sel, keys, n, asked)
				}
			}
		}
	}
}

// P13.3: without a key there is no interrupt, whatever was there.
func TestNoKey(t *testing.T) {
	for sel := range 256 {
		for last := range 256 {
			got, asked := Step(api.Pad{Sel: uint8(sel), Last: uint8(last)}, 0)
			if got != (api.Pad{Sel: uint8(sel), Last: 15}) || asked {
				t.Fatalf("Sel %d, Last %d: %+v, %v", sel, last, got, asked)
			}
		}
	}
}

// P13.2: a key that is let go and held once more asks once more, and so does
// one whose row is asked no more and then again.
func TestHeldOnceMore(t *testing.T) {
	p := api.Pad{Sel: second, Last: 15}
	for n, w := range []struct {
		sel, keys uint8
		asked     bool
	}{
		{second, start, true}, {second, start, false}, {second, 0, false}, {second, start, true},
		{none, start, false}, {second, start, true}, {first, start, false}, {both, start, true},
		{second, start, false}, {second, start | keyA, true}, {second, start, false},
		{both, start | down, false}, {first, start | down, false}, {first, start, false},
	} {
		var asked bool
		if p, asked = Step(Write(p, w.sel), w.keys); asked != w.asked {
			t.Errorf("%d, Sel %d, keys %08b: %v", n, w.sel, w.keys, asked)
		}
	}
}

// P13.1, P13.2, R4: long runs by chance, with writes amid them.
func TestRuns(t *testing.T) {
	r := rand.New(rand.NewSource(131))
	for range 200 {
		p, keys := api.Pad{Sel: uint8(r.Intn(256)), Last: uint8(r.Intn(256))}, uint8(0)
		for range 1000 {
			if r.Intn(8) == 0 {
				p = Write(p, uint8(r.Intn(256)))
			}
			if r.Intn(3) == 0 {
				keys ^= 1 << r.Intn(8)
			}
			lines := seen(p.Sel, keys)
			got, asked := Step(p, keys)
			if got != (api.Pad{Sel: p.Sel, Last: lines}) || asked != asks(p.Last, lines) {
				t.Fatalf("%+v, keys %08b: %+v, %v", p, keys, got, asked)
			}
			p = got
		}
	}
}
