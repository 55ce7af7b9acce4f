package machine

import (
	"math/rand"
	"slices"
	"testing"

	"whirligig/api"
)

// The same inputs make the same entries, whatever other machines do between
// them (P24.5, P5, R4).
func TestSameInputs(t *testing.T) {
	r := rand.New(rand.NewSource(7))
	for range 10 {
		image := chanceImage(t, r, false)
		a, b, other := start(t, image), start(t, image), start(t, chanceImage(t, r, false))
		var in api.Input
		for n := range 5000 {
			in = chanceInput(r, in)
			x := a.Step(in)
			other.Step(chanceInput(r, in))
			if y := b.Step(in); x != y {
				t.Fatalf("cycle %d: %+v, %+v", n, x, y)
			}
		}
		if a.Cpu() != b.Cpu() || !slices.Equal(a.Frame(), b.Frame()) || !slices.Equal(a.Save(), b.Save()) {
			t.Error("unlike machines")
		}
	}
}

// Asking turns nothing (P24.4).
func TestAskingTurnsNothing(t *testing.T) {
	r := rand.New(rand.NewSource(8))
	image := chanceImage(t, r, false)
	a, b := start(t, image), start(t, image)
	var in api.Input
	for n := range 20000 {
		in = chanceInput(r, in)
		x, y := a.Step(in), b.Step(in)
		if x != y {
			t.Fatalf("cycle %d: %+v, %+v", n, x, y)
		}
		b.Cpu()
		b.Ints()
		b.Frames()
		b.Peek(uint16(n))
		b.Peek(0xff00 + uint16(n%256))
		if n%500 == 0 {
			b.Frame()
			b.Save()
			b.Record(n / 500)
		}
	}
}

// What is told is the caller's own, and what was handed in may change (R3).
func TestSharesNothing(t *testing.T) {
	image := whole(t, 3, 2, busy()...)
	m := start(t, image)
	want := slices.Clone(image)
	clear(image)
	for at, b := range want {
		wantPeek(t, m, uint16(at), b)
	}
	run(m, 2*frameCycles, api.Input{})
	spoil := func(b []byte) {
		for i := range b {
			b[i] ^= 255
		}
	}
	frame := slices.Clone(m.Frame())
	spoil(m.Frame())
	if !slices.Equal(m.Frame(), frame) {
		t.Error("Frame")
	}
	v, _ := m.Record(77)
	vram, oam := slices.Clone(v.Vram), slices.Clone(v.Oam)
	spoil(v.Vram)
	spoil(v.Oam)
	if again, ok := m.Record(77); !ok || !slices.Equal(again.Vram, vram) || !slices.Equal(again.Oam, oam) {
		t.Error("Record")
	}
	kept := slices.Clone(m.Save())
	spoil(m.Save())
	if !slices.Equal(m.Save(), kept) {
		t.Error("Save")
	}
	b := rising(3)
	b = append(b, make([]byte, 8192-len(b))...)
	if m.Load(b) != api.OK {
		t.Fatal("Load")
	}
	same := slices.Clone(b)
	spoil(b)
	if !slices.Equal(m.Save(), same) {
		t.Error("Load")
	}
}

// A record and a frame stay as they are in the caller's hands.
func TestToldStays(t *testing.T) {
	m := plain(t, busy()...)
	run(m, firstFrame, api.Input{})
	v, _ := m.Record(50)
	frame := m.Frame()
	vram, oam, shades := slices.Clone(v.Vram), slices.Clone(v.Oam), slices.Clone(frame)
	run(m, 2*frameCycles, api.Input{})
	if !slices.Equal(v.Vram, vram) || !slices.Equal(v.Oam, oam) || !slices.Equal(frame, shades) {
		t.Error("what was told was turned")
	}
}

// keeping is a program that lays some bytes into the RAM, with a clock's
// registers for kinds that have one.
var keeping = []string{
	"LD A,$0A", "LD ($0000),A", "LD A,$2B", "LD ($A000),A", "LD ($BFFF),A", "LD ($A777),A",
	"XOR A", "LD ($6000),A", "INC A", "LD ($6000),A", "JR $FE",
}

// What was saved, loaded into a fresh machine of the same image, gives it the
// RAM and the clocks (P24.7, P24.4, P2).
func TestSaveLoad(t *testing.T) {
	sizes := map[uint8]int{3: 8192, 9: 8192, 15: 10, 16: 8202, 19: 8192, 27: 8192, 30: 8192}
	for kind, size := range sizes {
		image := whole(t, kind, 2, keeping...)
		m := start(t, image)
		run(m, 80, api.Input{Tick: true})
		b := m.Save()
		if len(b) != size || size > 8000 && (b[0] != 0x2b || b[0x777] != 0x2b || b[0x1fff] != 0x2b) {
			t.Fatalf("kind %d: %d bytes", kind, len(b))
		}
		fresh := start(t, image)
		if slices.Equal(fresh.Save(), b) || fresh.Load(b) != api.OK || !slices.Equal(fresh.Save(), b) {
			t.Errorf("kind %d: what was loaded isn't what was saved", kind)
		}
		if fresh.Cpu() != start(t, image).Cpu() || fresh.Ints() != (api.Ints{If: 1}) {
			t.Errorf("kind %d: the rest was turned", kind)
		}
		if kind == 3 {
			until(t, fresh, "W 0000=0A")
			wantPeek(t, fresh, 0xa777, 0x2b)
		}
		other := append([]byte(nil), b...)
		for _, wrong := range [][]byte{nil, b[:size-1], append(other, 0)} {
			if fresh.Load(wrong) != api.ErrSize || !slices.Equal(fresh.Save(), b) {
				t.Errorf("kind %d: %d bytes", kind, len(wrong))
			}
		}
	}
}

// What can't be loaded (P24.4).
func TestLoadErrors(t *testing.T) {
	for _, kind := range []uint8{0, 1, 2, 8, 17, 18, 25, 26} {
		m := start(t, whole(t, kind, 2, keeping...))
		run(m, 80, api.Input{})
		if e := m.Load(make([]byte, 8192)); e != api.ErrNone || len(m.Save()) != 0 {
			t.Errorf("kind %d: %d", kind, e)
		}
		if e := m.Load(nil); e != api.ErrNone {
			t.Errorf("kind %d: %d", kind, e)
		}
	}
	m := start(t, whole(t, 16, 2, keeping...))
	run(m, 80, api.Input{Tick: true})
	before := m.Save()
	b := slices.Repeat([]byte{255}, 8202)
	if e := m.Load(b); e != api.ErrText || !slices.Equal(m.Save(), before) {
		t.Errorf("%d", e)
	}
}
