package serial

import (
	"math/rand"
	"testing"

	"whirligig/api"
)

// The registers' places.
const (
	data = 0xFF01
	ctl  = 0xFF02
)

// bools are both.
var bools = []bool{false, true}

// edges are bytes at which something changes: of a phase, of what is left, of
// the data.
var edges = []uint8{0, 1, 2, 7, 8, 9, 64, 126, 127, 128, 129, 254, 255}

// number is a bool's, to reckon with.
func number(b bool) int {
	if b {
		return 1
	}
	return 0
}

// stepped is what Step must answer, by the chapter's words, with whole numbers
// instead of bits.
func stepped(s api.Serial, bit, edge bool) (api.Serial, bool, bool) {
	sent := int(s.Data) >= 128
	if int(s.Ctl) < 128 || s.Left == 0 {
		return s, sent, false
	}
	shifts := edge
	if int(s.Ctl)%2 == 1 {
		phase := int(s.Phase) + 1
		shifts = phase >= 128
		if shifts {
			phase = 0
		}
		s.Phase = uint8(phase)
	}
	if !shifts {
		return s, sent, false
	}
	s.Data = uint8((2*int(s.Data) + number(bit)) % 256)
	s.Left = uint8(int(s.Left) - 1)
	if s.Left != 0 {
		return s, sent, false
	}
	s.Ctl = uint8(int(s.Ctl) - 128)
	return s, sent, true
}

// written is what Write must answer.
func written(s api.Serial, addr int, v uint8) api.Serial {
	if addr == 0xFF01 {
		s.Data = v
	}
	if addr == 0xFF02 {
		goes, own := int(v)/128, int(v)%2
		s.Ctl, s.Left, s.Phase = uint8(128*goes+own), uint8(8*goes), 0
	}
	return s
}

// wantStep fails if a cycle does another thing.
func wantStep(t *testing.T, s api.Serial, bit, edge bool) {
	t.Helper()
	want, send, ask := stepped(s, bit, edge)
	if got, sent, asked := Step(s, bit, edge); got != want || sent != send || asked != ask {
		t.Fatalf("Step(%+v, %v, %v): %+v, %v, %v, not %+v, %v, %v", s, bit, edge, got, sent, asked, want, send, ask)
	}
}

// wantWritten fails if a write does another thing.
func wantWritten(t *testing.T, s api.Serial, addr int, v uint8) {
	t.Helper()
	if got, want := Write(s, uint16(addr), v), written(s, addr, v); got != want {
		t.Fatalf("%d to %04X of %+v: %+v, not %+v", v, addr, s, got, want)
	}
}

// anyPort is a port by chance, which often goes, and often is about to shift.
func anyPort(r *rand.Rand) api.Serial {
	s := api.Serial{Data: uint8(r.Intn(256)), Ctl: uint8(r.Intn(256)), Left: uint8(r.Intn(256)), Phase: uint8(r.Intn(256))}
	if r.Intn(2) == 0 {
		s.Ctl |= 128
	}
	if r.Intn(2) == 0 {
		s.Left = uint8(r.Intn(10))
	}
	if r.Intn(2) == 0 {
		s.Phase = uint8(120 + r.Intn(10))
	}
	return s
}

// P12.1, R5: each Ctl, Left and Phase with the other's lines, odd ones too.
func TestStep(t *testing.T) {
	for control := range 256 {
		for left := range 256 {
			for _, phase := range edges {
				for _, held := range []uint8{0, 1, 127, 128, 170, 255} {
					s := api.Serial{Data: held, Ctl: uint8(control), Left: uint8(left), Phase: phase}
					for _, bit := range bools {
						wantStep(t, s, bit, false)
						wantStep(t, s, bit, true)
					}
				}
			}
		}
	}
}

// P12.1: each Phase, of ports that go and that don't, by each clock.
func TestStepOfEachPhase(t *testing.T) {
	for phase := range 256 {
		for _, control := range []uint8{0, 1, 126, 127, 128, 129, 254, 255} {
			for _, left := range edges {
				for _, edge := range bools {
					wantStep(t, api.Serial{Data: 165, Ctl: control, Left: left, Phase: uint8(phase)}, true, edge)
					wantStep(t, api.Serial{Data: 90, Ctl: control, Left: left, Phase: uint8(phase)}, false, edge)
				}
			}
		}
	}
}

// P12.1: each Data, shifted by each clock with each bit.
func TestStepOfEachData(t *testing.T) {
	for held := range 256 {
		for _, bit := range bools {
			want := api.Serial{Data: uint8((2*held + number(bit)) % 256), Ctl: 128, Left: 4, Phase: 9}
			got, sent, asked := Step(api.Serial{Data: uint8(held), Ctl: 128, Left: 5, Phase: 9}, bit, true)
			if got != want || sent != (held >= 128) || asked {
				t.Errorf("the other's clock, Data %d, %v: %+v, %v, %v", held, bit, got, sent, asked)
			}
			want.Ctl, want.Phase = 129, 0
			got, sent, asked = Step(api.Serial{Data: uint8(held), Ctl: 129, Left: 5, Phase: 127}, bit, false)
			if got != want || sent != (held >= 128) || asked {
				t.Errorf("its own clock, Data %d, %v: %+v, %v, %v", held, bit, got, sent, asked)
			}
		}
	}
}

// P12.1: written out.
func TestStepByHand(t *testing.T) {
	for _, w := range []struct {
		from        api.Serial
		bit, edge   bool
		want        api.Serial
		sent, asked bool
	}{
		// The chapter's example.
		{api.Serial{Data: 128, Ctl: 128, Left: 8}, true, true, api.Serial{Data: 1, Ctl: 128, Left: 7}, true, false},
		// It doesn't go, and tells its bit nevertheless.
		{api.Serial{}, true, true, api.Serial{}, false, false},
		{api.Serial{Data: 128}, true, true, api.Serial{Data: 128}, true, false},
		{api.Serial{Data: 200, Ctl: 128, Phase: 127}, true, true, api.Serial{Data: 200, Ctl: 128, Phase: 127}, true, false},
		{api.Serial{Data: 100, Ctl: 129, Phase: 127}, true, true, api.Serial{Data: 100, Ctl: 129, Phase: 127}, false, false},
		{api.Serial{Data: 200, Ctl: 127, Left: 1, Phase: 127}, true, true, api.Serial{Data: 200, Ctl: 127, Left: 1, Phase: 127}, true, false},
		{api.Serial{Data: 200, Ctl: 1, Left: 255, Phase: 255}, false, true, api.Serial{Data: 200, Ctl: 1, Left: 255, Phase: 255}, true, false},
		// Its own clock: the edge plays no part.
		{api.Serial{Data: 128, Ctl: 129, Left: 1}, true, true, api.Serial{Data: 128, Ctl: 129, Left: 1, Phase: 1}, true, false},
		{api.Serial{Data: 1, Ctl: 129, Left: 3, Phase: 126}, true, true, api.Serial{Data: 1, Ctl: 129, Left: 3, Phase: 127}, false, false},
		{api.Serial{Data: 1, Ctl: 129, Left: 3, Phase: 127}, false, false, api.Serial{Data: 2, Ctl: 129, Left: 2}, false, false},
		{api.Serial{Data: 1, Ctl: 129, Left: 3, Phase: 128}, true, false, api.Serial{Data: 3, Ctl: 129, Left: 2}, false, false},
		{api.Serial{Data: 1, Ctl: 129, Left: 3, Phase: 255}, true, false, api.Serial{Data: 3, Ctl: 129, Left: 2}, false, false},
		{api.Serial{Data: 255, Ctl: 129, Left: 1, Phase: 127}, false, false, api.Serial{Data: 254, Ctl: 1}, true, true},
		{api.Serial{Data: 255, Ctl: 129, Left: 1, Phase: 255}, true, true, api.Serial{Data: 255, Ctl: 1}, true, true},
		// The other's clock: Phase plays no part, and stays.
		{api.Serial{Data: 64, Ctl: 128, Left: 2, Phase: 127}, true, false, api.Serial{Data: 64, Ctl: 128, Left: 2, Phase: 127}, false, false},
		{api.Serial{Data: 64, Ctl: 128, Left: 2, Phase: 255}, false, true, api.Serial{Data: 128, Ctl: 128, Left: 1, Phase: 255}, false, false},
		{api.Serial{Data: 64, Ctl: 128, Left: 1, Phase: 5}, true, true, api.Serial{Data: 129, Phase: 5}, false, true},
		{api.Serial{Ctl: 128, Left: 1}, false, true, api.Serial{}, false, true},
		// More than eight may be left, and Ctl's other bits stay.
		{api.Serial{Data: 3, Ctl: 254, Left: 255, Phase: 9}, false, true, api.Serial{Data: 6, Ctl: 254, Left: 254, Phase: 9}, false, false},
		{api.Serial{Data: 3, Ctl: 254, Left: 1}, false, true, api.Serial{Data: 6, Ctl: 126}, false, true},
		{api.Serial{Data: 3, Ctl: 255, Left: 1, Phase: 127}, false, true, api.Serial{Data: 6, Ctl: 127}, false, true},
	} {
		if got, sent, asked := Step(w.from, w.bit, w.edge); got != w.want || sent != w.sent || asked != w.asked {
			t.Errorf("Step(%+v, %v, %v): %+v, %v, %v, not %+v, %v, %v", w.from, w.bit, w.edge, got, sent, asked, w.want, w.sent, w.asked)
		}
	}
}

// P12.2: each place; where no register stands 255 is read.
func TestRead(t *testing.T) {
	for _, s := range []api.Serial{{}, {Data: 18, Ctl: 128, Left: 8, Phase: 3}, {Data: 52, Ctl: 127, Left: 1, Phase: 255}} {
		for addr := range 65536 {
			want := uint8(255)
			if addr == data {
				want = s.Data
			}
			if addr == ctl {
				want = uint8(126 + int(s.Ctl)/128*128 + int(s.Ctl)%2)
			}
			if got := Read(s, uint16(addr)); got != want {
				t.Fatalf("Read(%+v, %04X): %d, not %d", s, addr, got, want)
			}
		}
	}
}

// P12.2: each byte of both registers; nothing else plays a part in them.
func TestReadOfEachByte(t *testing.T) {
	for v := range 256 {
		for _, left := range edges {
			for _, phase := range edges {
				if got := Read(api.Serial{Data: uint8(v), Ctl: 129, Left: left, Phase: phase}, data); int(got) != v {
					t.Fatalf("Data %d, %d left: %d", v, left, got)
				}
				if got := Read(api.Serial{Data: 66, Ctl: uint8(v), Left: left, Phase: phase}, ctl); int(got) != 126+v/128*128+v%2 {
					t.Fatalf("Ctl %d, %d left: %d", v, left, got)
				}
			}
		}
	}
}

// P12.2: the four that Ctl may be read as.
func TestReadByHand(t *testing.T) {
	for held, want := range map[uint8]uint8{0: 126, 1: 127, 128: 254, 129: 255, 126: 126, 127: 127, 254: 254, 255: 255} {
		if got := Read(api.Serial{Ctl: held}, ctl); got != want {
			t.Errorf("Ctl %d: %d, not %d", held, got, want)
		}
	}
}

// P12.2: each byte to both registers and the places beside them.
func TestWrite(t *testing.T) {
	for v := range 256 {
		for _, control := range []uint8{0, 1, 126, 128, 129, 255} {
			for _, left := range edges {
				for _, phase := range edges {
					s := api.Serial{Data: 77, Ctl: control, Left: left, Phase: phase}
					for addr := 0xFF00; addr <= 0xFF03; addr++ {
						wantWritten(t, s, addr, uint8(v))
					}
				}
			}
		}
	}
}

// P12.2: each place that is none leaves all as it is, whatever is written.
func TestWriteNowhere(t *testing.T) {
	r := rand.New(rand.NewSource(122))
	for addr := range 65536 {
		if addr == data || addr == ctl {
			continue
		}
		for _, s := range []api.Serial{{}, {Data: 255, Ctl: 255, Left: 255, Phase: 255}, anyPort(r)} {
			v := uint8(r.Intn(256))
			if got := Write(s, uint16(addr), v); got != s {
				t.Fatalf("%d to %04X of %+v: %+v", v, addr, s, got)
			}
		}
	}
}

// P12.2: written out.
func TestWriteByHand(t *testing.T) {
	amid := api.Serial{Data: 9, Ctl: 129, Left: 3, Phase: 77}
	for _, w := range []struct {
		from api.Serial
		addr uint16
		v    uint8
		want api.Serial
	}{
		{api.Serial{}, ctl, 129, api.Serial{Ctl: 129, Left: 8}},
		{amid, data, 200, api.Serial{Data: 200, Ctl: 129, Left: 3, Phase: 77}},
		{amid, data, 0, api.Serial{Ctl: 129, Left: 3, Phase: 77}},
		{amid, ctl, 255, api.Serial{Data: 9, Ctl: 129, Left: 8}},
		{amid, ctl, 254, api.Serial{Data: 9, Ctl: 128, Left: 8}},
		{amid, ctl, 128, api.Serial{Data: 9, Ctl: 128, Left: 8}},
		{amid, ctl, 127, api.Serial{Data: 9, Ctl: 1}},
		{amid, ctl, 126, api.Serial{Data: 9}},
		{amid, ctl, 0, api.Serial{Data: 9}},
		{api.Serial{Data: 9, Ctl: 254, Left: 200, Phase: 255}, data, 7, api.Serial{Data: 7, Ctl: 254, Left: 200, Phase: 255}},
		{api.Serial{Data: 9, Ctl: 254, Left: 200, Phase: 255}, ctl, 1, api.Serial{Data: 9, Ctl: 1}},
		{amid, 0xFF00, 7, amid},
		{amid, 0xFF03, 7, amid},
		{amid, 0x0001, 7, amid},
		{amid, 0x0002, 7, amid},
	} {
		if got := Write(w.from, w.addr, w.v); got != w.want {
			t.Errorf("%d to %04X of %+v: %+v, not %+v", w.v, w.addr, w.from, got, w.want)
		}
	}
}

// P12.2: what was written is read.
func TestWrittenIsRead(t *testing.T) {
	r := rand.New(rand.NewSource(123))
	for v := range 256 {
		s := anyPort(r)
		if got := Read(Write(s, data, uint8(v)), data); int(got) != v {
			t.Errorf("Data %d of %+v: %d", v, s, got)
		}
		if got := Read(Write(s, ctl, uint8(v)), ctl); got != uint8(v)|126 {
			t.Errorf("Ctl %d of %+v: %d", v, s, got)
		}
	}
}

// P12.3: each byte by its own clock, while each byte comes in by the other's
// line: 1024 cycles, one interrupt, the first bit the highest.
func TestByteByItsOwnClock(t *testing.T) {
	for out := range 256 {
		for in := out % 5; in < 256; in += 5 {
			s := Write(Write(api.Serial{}, data, uint8(out)), ctl, 129)
			for n := 1; n <= 1024; n++ {
				place := 7 - (n-1)/128
				var sent, asked bool
				s, sent, asked = Step(s, in>>place%2 == 1, n%3 == 0)
				if sent != (out>>place%2 == 1) || asked != (n == 1024) {
					t.Fatalf("%d out, %d in, cycle %d: %v, %v", out, in, n, sent, asked)
				}
			}
			if s != (api.Serial{Data: uint8(in), Ctl: 1}) {
				t.Fatalf("%d out, %d in: %+v", out, in, s)
			}
			if got, _, asked := Step(s, true, true); got != s || asked {
				t.Fatalf("%d out, %d in: it goes on to %+v, %v", out, in, got, asked)
			}
		}
	}
}

// P12.3: of the 128 cycles of a bit only what comes in the last one is taken.
func TestBitInTheLastCycle(t *testing.T) {
	s := Write(api.Serial{}, ctl, 129)
	for n := 1; n <= 1024; n++ {
		s, _, _ = Step(s, n%128 != 0, true)
	}
	if s.Data != 0 {
		t.Errorf("Data %d of bits that were gone", s.Data)
	}
}

// P12.1: the chapter's first example, with all that is between.
func TestPhaseAlone(t *testing.T) {
	s := Write(api.Serial{Data: 170}, ctl, 129)
	for n := 1; n <= 127; n++ {
		s, _, _ = Step(s, true, true)
		if s != (api.Serial{Data: 170, Ctl: 129, Left: 8, Phase: uint8(n)}) {
			t.Fatalf("behind %d: %+v", n, s)
		}
	}
	if s, _, _ = Step(s, true, true); s != (api.Serial{Data: 85, Ctl: 129, Left: 7}) {
		t.Errorf("behind 128: %+v", s)
	}
}

// P12.1: by the other's clock it waits for as long as that takes.
func TestByteByTheOthersClock(t *testing.T) {
	r := rand.New(rand.NewSource(124))
	for in := range 256 {
		out := r.Intn(256)
		s := Write(api.Serial{Data: uint8(out)}, ctl, 128)
		for place := 7; place >= 0; place-- {
			for range r.Intn(300) {
				was := s
				var asked bool
				if s, _, asked = Step(s, r.Intn(2) == 0, false); s != was || asked {
					t.Fatalf("without an edge %+v is %+v, %v", was, s, asked)
				}
			}
			var sent, asked bool
			s, sent, asked = Step(s, in>>place%2 == 1, true)
			if sent != (out>>place%2 == 1) || asked != (place == 0) {
				t.Fatalf("%d out, %d in, bit %d: %v, %v", out, in, place, sent, asked)
			}
		}
		if s != (api.Serial{Data: uint8(in)}) {
			t.Fatalf("%d out, %d in: %+v", out, in, s)
		}
	}
}

// joined is a cycle of two ports whose lines are joined: each has the bit that
// the other sends in it, and the second one's clock is the first one's. It tells
// which of them asked.
func joined(one, two api.Serial) (api.Serial, api.Serial, bool, bool) {
	_, fromOne, _ := Step(one, false, false)
	_, fromTwo, _ := Step(two, false, false)
	next, _, askedOne := Step(one, fromTwo, false)
	round := next.Left != one.Left
	two, _, askedTwo := Step(two, fromOne, round)
	return next, two, askedOne, askedTwo
}

// P12.3: two ports exchange their bytes, and both ask in the last cycle.
func TestExchange(t *testing.T) {
	for a := range 256 {
		for b := a % 7; b < 256; b += 7 {
			one := Write(Write(api.Serial{}, data, uint8(a)), ctl, 129)
			two := Write(Write(api.Serial{}, data, uint8(b)), ctl, 128)
			for n := 1; n <= 1024; n++ {
				var askedOne, askedTwo bool
				one, two, askedOne, askedTwo = joined(one, two)
				if askedOne != (n == 1024) || askedTwo != (n == 1024) {
					t.Fatalf("%d and %d, cycle %d: %v, %v", a, b, n, askedOne, askedTwo)
				}
			}
			if one != (api.Serial{Data: uint8(b), Ctl: 1}) || two != (api.Serial{Data: uint8(a)}) {
				t.Fatalf("%d and %d: %+v, %+v", a, b, one, two)
			}
		}
	}
}

// P12.3: with one that doesn't go nothing is exchanged: it sends its highest
// bit all the while, and keeps its byte.
func TestNobodyThere(t *testing.T) {
	for b := range 256 {
		one, two := Write(api.Serial{Data: 60}, ctl, 129), api.Serial{Data: uint8(b)}
		for range 1024 {
			one, two, _, _ = joined(one, two)
		}
		if int(one.Data) != b/128*255 || two != (api.Serial{Data: uint8(b)}) {
			t.Errorf("%d: %+v, %+v", b, one, two)
		}
	}
}

// P12.3: a byte that is begun anew amid another takes its 1024 cycles, and one
// that is given up never asks.
func TestBegunAnew(t *testing.T) {
	for _, at := range []int{1, 127, 128, 129, 500, 1023} {
		s := Write(api.Serial{Data: 201}, ctl, 129)
		for range at {
			s, _, _ = Step(s, true, false)
		}
		given := Write(s, ctl, 1)
		s = Write(s, ctl, 129)
		for n := 1; n <= 1024; n++ {
			var asked bool
			if s, _, asked = Step(s, false, false); asked != (n == 1024) {
				t.Fatalf("anew at %d, cycle %d: %v", at, n, asked)
			}
			if got, _, asked := Step(given, true, true); got != given || asked {
				t.Fatalf("given up at %d: %+v, %v", at, got, asked)
			}
		}
	}
}

// P12.1, P12.2, R4: long runs by chance, with writes amid them.
func TestRuns(t *testing.T) {
	r := rand.New(rand.NewSource(125))
	for range 300 {
		s := anyPort(r)
		for range 2000 {
			if r.Intn(200) == 0 {
				addr, v := 0xFF00+r.Intn(4), uint8(r.Intn(256))
				wantWritten(t, s, addr, v)
				s = Write(s, uint16(addr), v)
			}
			bit, edge := r.Intn(2) == 0, r.Intn(4) == 0
			wantStep(t, s, bit, edge)
			s, _, _ = Step(s, bit, edge)
		}
	}
}
