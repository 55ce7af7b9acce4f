package lcd

import (
	"math/rand"
	"testing"

	"whirligig/api"
)

// The registers' places.
const (
	stats = 0xFF41
	lines = 0xFF44
	lycs  = 0xFF45
)

// bools are both.
var bools = []bool{false, true}

// edgeLines, edgeDots and edgeExtras are numbers at which something changes,
// and such as come round when they are cut to fewer bits.
var (
	edgeLines  = []uint8{0, 1, 5, 127, 128, 142, 143, 144, 145, 152, 153, 154, 155, 200, 254, 255}
	edgeDots   = []uint16{0, 1, 78, 79, 80, 81, 250, 251, 252, 253, 258, 259, 451, 452, 453, 454, 455, 456, 457, 512, 592, 65534, 65535}
	edgeExtras = []uint16{0, 1, 7, 199, 200, 201, 203, 204, 255, 256, 263, 456, 65283, 65284, 65285, 65535}
	edgeBytes  = []uint8{0, 1, 4, 5, 7, 8, 16, 32, 64, 120, 127, 128, 135, 143, 144, 200, 255}
)

// digit is a number's binary digit.
func digit(v uint8, place int) int {
	n := int(v)
	for range place {
		n /= 2
	}
	return n % 2
}

// upper are the bits 3 to 6 of a byte, by reckoning.
func upper(v uint8) int {
	return (int(v) % 128) / 8 * 8
}

// modeOf is what Mode must answer, by the chapter's words.
func modeOf(l api.Lcd) int {
	if !l.On {
		return 0
	}
	if int(l.Line) >= 144 {
		return 1
	}
	if int(l.Dot) < 80 {
		return 2
	}
	if int(l.Dot) < 252+int(l.Extra) {
		return 3
	}
	return 0
}

// sourceOf is what Source must answer.
func sourceOf(l api.Lcd) bool {
	if !l.On {
		return false
	}
	var so [4]bool
	so[0] = modeOf(l) == 0 && digit(l.Sel, 3) == 1
	so[1] = modeOf(l) == 1 && digit(l.Sel, 4) == 1
	so[2] = modeOf(l) == 2 && digit(l.Sel, 5) == 1
	so[3] = l.Line == l.Lyc && digit(l.Sel, 6) == 1
	return so != [4]bool{}
}

// high has High as it must be, and whether it rose.
func high(l api.Lcd) (api.Lcd, bool) {
	was := l.High
	l.High = sourceOf(l)
	return l, !was && l.High
}

// stepped is what Step must answer.
func stepped(l api.Lcd, extra uint16) (api.Lcd, api.Event) {
	if !l.On {
		return l, api.Event{}
	}
	dot, line := int(l.Dot)+1, int(l.Line)
	if dot >= 456 {
		dot = 0
		line++
		if line >= 154 {
			line = 0
		}
	}
	l.Dot, l.Line = uint16(dot), uint8(line)
	var e api.Event
	if line < 144 && dot == 80 {
		e.Draw = true
		l.Extra = 200
		if int(extra) < 200 {
			l.Extra = extra
		}
	}
	if line == 144 && dot == 0 {
		e.Frame = true
	}
	l, e.Lcd = high(l)
	return l, e
}

// powered is what Power must answer.
func powered(l api.Lcd, on bool) (api.Lcd, bool) {
	if l.On == on {
		return l, false
	}
	now := api.Lcd{On: on, Lyc: l.Lyc, Sel: l.Sel}
	if !on {
		return now, false
	}
	now.High = l.High
	return high(now)
}

// readOf is what Read must answer.
func readOf(l api.Lcd, addr int) uint8 {
	switch addr {
	case 0xFF41:
		v := 128 + upper(l.Sel) + modeOf(l)
		if l.Line == l.Lyc {
			v += 4
		}
		return uint8(v)
	case 0xFF44:
		return l.Line
	case 0xFF45:
		return l.Lyc
	}
	return 255
}

// written is what Write must answer.
func written(l api.Lcd, addr int, v uint8) (api.Lcd, bool) {
	if addr == 0xFF41 {
		l.Sel = uint8(upper(v))
		return high(l)
	}
	if addr == 0xFF45 {
		l.Lyc = v
		return high(l)
	}
	return l, false
}

// edges tells values at whose numbers something changes, with Lycs that are the
// line and such as aren't.
func edges(sels []uint8, tell func(api.Lcd)) {
	for _, on := range bools {
		for _, line := range edgeLines {
			for _, dot := range edgeDots {
				for _, extra := range edgeExtras {
					for _, sel := range sels {
						for _, up := range bools {
							for _, lyc := range []uint8{line, line + 1, 0} {
								tell(api.Lcd{On: on, Line: line, Dot: dot, Lyc: lyc, Sel: sel, High: up, Extra: extra})
							}
						}
					}
				}
			}
		}
	}
}

// chance is a value by chance; half of them are such as a step would tell.
func chance(r *rand.Rand) api.Lcd {
	l := api.Lcd{
		On:    r.Intn(8) != 0,
		Line:  uint8(r.Intn(256)),
		Dot:   uint16(r.Intn(65536)),
		Sel:   uint8(r.Intn(256)),
		High:  r.Intn(2) == 0,
		Extra: uint16(r.Intn(65536)),
	}
	if r.Intn(2) == 0 {
		l.Line, l.Dot, l.Extra = uint8(r.Intn(154)), uint16(r.Intn(456)), uint16(r.Intn(201))
	}
	l.Lyc = l.Line
	if r.Intn(2) == 0 {
		l.Lyc = uint8(r.Intn(256))
	}
	return l
}

// P15.1: each dot at the edges of lines and extras; each line at those of dots.
func TestMode(t *testing.T) {
	hold := func(l api.Lcd) {
		if got, want := Mode(l), modeOf(l); got != want {
			t.Fatalf("%+v: %d, not %d", l, got, want)
		}
	}
	for _, on := range bools {
		for _, extra := range edgeExtras {
			for dot := range 65536 {
				for _, line := range []uint8{0, 143, 144, 255} {
					hold(api.Lcd{On: on, Line: line, Dot: uint16(dot), Extra: extra})
				}
			}
			for line := range 256 {
				for _, dot := range edgeDots {
					hold(api.Lcd{On: on, Line: uint8(line), Dot: dot, Extra: extra})
				}
			}
		}
	}
}

// P15.1: written out, the chapter's examples among them.
func TestModeByHand(t *testing.T) {
	for _, w := range []struct {
		on         bool
		line       uint8
		dot, extra uint16
		want       int
	}{
		{false, 0, 0, 0, 0}, {false, 3, 80, 0, 0}, {false, 144, 0, 0, 0}, {false, 255, 65535, 65535, 0},
		{true, 0, 0, 0, 2}, {true, 0, 79, 0, 2}, {true, 0, 79, 65535, 2},
		{true, 3, 80, 7, 3}, {true, 3, 258, 7, 3}, {true, 3, 259, 7, 0},
		{true, 0, 251, 0, 3}, {true, 0, 252, 0, 0}, {true, 143, 455, 0, 0}, {true, 143, 0, 0, 2},
		{true, 0, 451, 200, 3}, {true, 0, 452, 200, 0}, {true, 0, 455, 200, 0},
		{true, 144, 0, 0, 1}, {true, 144, 79, 0, 1}, {true, 144, 100, 0, 1}, {true, 153, 455, 0, 1},
		{true, 154, 0, 0, 1}, {true, 255, 65535, 0, 1},
		{true, 0, 455, 204, 3}, {true, 0, 456, 204, 0}, {true, 0, 1000, 0, 0}, {true, 0, 65535, 0, 0},
		{true, 0, 80, 65284, 3}, {true, 0, 65535, 65284, 3}, {true, 0, 65535, 65283, 0}, {true, 0, 65535, 65535, 3},
	} {
		if got := Mode(api.Lcd{On: w.on, Line: w.line, Dot: w.dot, Extra: w.extra}); got != w.want {
			t.Errorf("%+v: %d", w, got)
		}
	}
}

// P15.1: neither what is let in nor what was has a part in the mode.
func TestModeAlone(t *testing.T) {
	edges([]uint8{0, 8, 120, 255}, func(l api.Lcd) {
		bare := l
		bare.Sel, bare.Lyc, bare.High = 0, 0, false
		if Mode(l) != Mode(bare) {
			t.Fatalf("%+v: %d", l, Mode(l))
		}
	})
}

// P15.1, R5: each Sel in each mode, with the line that is waited for and
// without it.
func TestSource(t *testing.T) {
	for sel := range 256 {
		for _, line := range edgeLines {
			for lyc := range 256 {
				for _, dot := range []uint16{0, 79, 80, 251, 252, 455} {
					for _, on := range bools {
						l := api.Lcd{On: on, Line: line, Dot: dot, Lyc: uint8(lyc), Sel: uint8(sel)}
						if got, want := Source(l), sourceOf(l); got != want {
							t.Fatalf("%+v: %v, not %v", l, got, want)
						}
					}
				}
			}
		}
	}
	// What the line was has no part in what it is.
	edges([]uint8{0, 8, 16, 32, 64, 135, 255}, func(l api.Lcd) {
		if got, want := Source(l), sourceOf(l); got != want {
			t.Fatalf("%+v: %v, not %v", l, got, want)
		}
	})
}

// P15.1: each source alone, in each mode.
func TestSourceByHand(t *testing.T) {
	rest := api.Lcd{On: true, Line: 3, Dot: 300, Lyc: 9}
	frame := api.Lcd{On: true, Line: 150, Dot: 300, Lyc: 9}
	look := api.Lcd{On: true, Line: 3, Dot: 10, Lyc: 9}
	draw := api.Lcd{On: true, Line: 3, Dot: 100, Lyc: 9}
	for _, w := range []struct {
		name string
		l    api.Lcd
		only uint8
	}{
		{"mode 0", rest, 8}, {"mode 1", frame, 16}, {"mode 2", look, 32}, {"mode 3", draw, 0},
	} {
		for n := range 8 {
			l := w.l
			l.Sel = uint8(1) << n
			if got := Source(l); got != (l.Sel == w.only) {
				t.Errorf("%s, bit %d: %v", w.name, n, got)
			}
			l.Lyc = l.Line
			if got := Source(l); got != (l.Sel == w.only || n == 6) {
				t.Errorf("%s, bit %d, its line: %v", w.name, n, got)
			}
			l.On = false
			if Source(l) {
				t.Errorf("%s, bit %d, off", w.name, n)
			}
		}
		l := w.l
		l.Sel = 255 - w.only
		if Source(l) {
			t.Errorf("%s, all others", w.name)
		}
	}
}

// P15.1: in each mode.
func TestLocks(t *testing.T) {
	edges([]uint8{0, 255}, func(l api.Lcd) {
		vram, oam := Locks(l)
		mode := modeOf(l)
		if vram != (mode == 3) || oam != (mode == 2 || mode == 3) {
			t.Fatalf("%+v: %v, %v", l, vram, oam)
		}
	})
}

// P15.1: written out.
func TestLocksByHand(t *testing.T) {
	for _, w := range []struct {
		l         api.Lcd
		vram, oam bool
	}{
		{api.Lcd{}, false, false}, {api.Lcd{Dot: 80}, false, false},
		{api.Lcd{On: true}, false, true}, {api.Lcd{On: true, Dot: 79}, false, true},
		{api.Lcd{On: true, Dot: 80}, true, true}, {api.Lcd{On: true, Dot: 251}, true, true},
		{api.Lcd{On: true, Dot: 252}, false, false}, {api.Lcd{On: true, Dot: 252, Extra: 1}, true, true},
		{api.Lcd{On: true, Line: 144}, false, false}, {api.Lcd{On: true, Line: 144, Dot: 80}, false, false},
	} {
		if vram, oam := Locks(w.l); vram != w.vram || oam != w.oam {
			t.Errorf("%+v: %v, %v", w.l, vram, oam)
		}
	}
}

// P15.2, R5: at all edges.
func TestStep(t *testing.T) {
	for _, extra := range []uint16{0, 7, 199, 200, 201, 256, 65535} {
		edges([]uint8{0, 8, 16, 32, 64, 255}, func(l api.Lcd) {
			got, e := Step(l, extra)
			if want, we := stepped(l, extra); got != want || e != we {
				t.Fatalf("%+v, %d: %+v, %+v, not %+v, %+v", l, extra, got, e, want, we)
			}
		})
	}
}

// P15.2: each place of the picture, with what it begins with.
func TestStepEach(t *testing.T) {
	for line := range 256 {
		for dot := range 460 {
			for _, sel := range []uint8{0, 120} {
				l := api.Lcd{On: true, Line: uint8(line), Dot: uint16(dot), Lyc: 77, Sel: sel, Extra: 3}
				got, e := Step(l, 44)
				if want, we := stepped(l, 44); got != want || e != we {
					t.Fatalf("%+v: %+v, %+v, not %+v, %+v", l, got, e, want, we)
				}
			}
		}
	}
}

// P15.2: each dot and each extra of 16 bits.
func TestStepWide(t *testing.T) {
	for n := range 65536 {
		l := api.Lcd{On: true, Line: 7, Dot: uint16(n), Extra: 5}
		got, e := Step(l, 9)
		if want, we := stepped(l, 9); got != want || e != we {
			t.Fatalf("%+v: %+v, %+v", l, got, e)
		}
		got, e = Step(api.Lcd{On: true, Line: 7, Dot: 79}, uint16(n))
		if got != (api.Lcd{On: true, Line: 7, Dot: 80, Extra: uint16(min(n, 200))}) || e != (api.Event{Draw: true}) {
			t.Fatalf("extra %d: %+v, %+v", n, got, e)
		}
	}
}

// P15.2: written out, the chapter's examples first.
func TestStepByHand(t *testing.T) {
	none, draw, frame := api.Event{}, api.Event{Draw: true}, api.Event{Frame: true}
	rise := api.Event{Lcd: true}
	for _, w := range []struct {
		l     api.Lcd
		extra uint16
		want  api.Lcd
		e     api.Event
	}{
		{api.Lcd{On: true, Line: 3, Dot: 79}, 7, api.Lcd{On: true, Line: 3, Dot: 80, Extra: 7}, draw},
		{api.Lcd{On: true, Line: 143, Dot: 455}, 7, api.Lcd{On: true, Line: 144}, frame},
		{api.Lcd{On: true, Line: 153, Dot: 455}, 0, api.Lcd{On: true}, none},
		{api.Lcd{On: true, Line: 154, Dot: 455}, 0, api.Lcd{On: true}, none},
		{api.Lcd{On: true, Line: 255, Dot: 455}, 0, api.Lcd{On: true}, none},
		{api.Lcd{On: true, Line: 255, Dot: 454}, 0, api.Lcd{On: true, Line: 255, Dot: 455}, none},
		{api.Lcd{On: true, Line: 152, Dot: 455}, 0, api.Lcd{On: true, Line: 153}, none},
		{api.Lcd{On: true, Line: 143, Dot: 65535}, 0, api.Lcd{On: true, Line: 144}, frame},
		{api.Lcd{On: true, Line: 144, Dot: 455}, 0, api.Lcd{On: true, Line: 145}, none},
		{api.Lcd{On: true, Line: 144, Dot: 0}, 0, api.Lcd{On: true, Line: 144, Dot: 1}, none},
		{api.Lcd{On: true, Line: 143, Dot: 79}, 201, api.Lcd{On: true, Line: 143, Dot: 80, Extra: 200}, draw},
		{api.Lcd{On: true, Line: 144, Dot: 79, Extra: 5}, 9, api.Lcd{On: true, Line: 144, Dot: 80, Extra: 5}, none},
		{api.Lcd{On: true, Line: 9, Dot: 455, Extra: 5}, 9, api.Lcd{On: true, Line: 10, Extra: 5}, none},
		{api.Lcd{On: true, Line: 9, Dot: 80, Extra: 5}, 9, api.Lcd{On: true, Line: 9, Dot: 81, Extra: 5}, none},
		{api.Lcd{On: true, Line: 9, Dot: 79, Extra: 50}, 0, api.Lcd{On: true, Line: 9, Dot: 80}, draw},
		{api.Lcd{Line: 9, Dot: 79, High: true, Sel: 255, Extra: 4}, 9, api.Lcd{Line: 9, Dot: 79, High: true, Sel: 255, Extra: 4}, none},
		{api.Lcd{Line: 143, Dot: 455, Lyc: 144, Sel: 255}, 9, api.Lcd{Line: 143, Dot: 455, Lyc: 144, Sel: 255}, none},
		{api.Lcd{On: true, Dot: 251, Sel: 8}, 0, api.Lcd{On: true, Dot: 252, Sel: 8, High: true}, rise},
		{api.Lcd{On: true, Dot: 252, Sel: 8, High: true}, 0, api.Lcd{On: true, Dot: 253, Sel: 8, High: true}, none},
		{api.Lcd{On: true, Dot: 455, Lyc: 1, Sel: 72, High: true}, 0, api.Lcd{On: true, Line: 1, Lyc: 1, Sel: 72, High: true}, none},
		{api.Lcd{On: true, Dot: 455, Lyc: 2, Sel: 72, High: true}, 0, api.Lcd{On: true, Line: 1, Lyc: 2, Sel: 72}, none},
		{api.Lcd{On: true, Line: 153, Dot: 455, Sel: 64}, 0, api.Lcd{On: true, Sel: 64, High: true}, rise},
		{api.Lcd{On: true, Line: 143, Dot: 455, Sel: 16, Lyc: 7}, 0, api.Lcd{On: true, Line: 144, Sel: 16, Lyc: 7, High: true}, api.Event{Frame: true, Lcd: true}},
		{api.Lcd{On: true, Line: 143, Dot: 455, Sel: 24, High: true}, 0, api.Lcd{On: true, Line: 144, Sel: 24, High: true}, frame},
		{api.Lcd{On: true, Line: 4, Dot: 79, Lyc: 4, Sel: 64}, 1, api.Lcd{On: true, Line: 4, Dot: 80, Lyc: 4, Sel: 64, High: true, Extra: 1}, api.Event{Draw: true, Lcd: true}},
	} {
		if got, e := Step(w.l, w.extra); got != w.want || e != w.e {
			t.Errorf("%+v, %d: %+v, %+v, not %+v, %+v", w.l, w.extra, got, e, w.want, w.e)
		}
	}
}

// P15.3, R5: at all edges.
func TestPower(t *testing.T) {
	edges([]uint8{0, 8, 16, 32, 64, 255}, func(l api.Lcd) {
		for _, on := range bools {
			got, rose := Power(l, on)
			if want, wr := powered(l, on); got != want || rose != wr {
				t.Fatalf("%+v, %v: %+v, %v, not %+v, %v", l, on, got, rose, want, wr)
			}
		}
	})
}

// P15.3: written out.
func TestPowerByHand(t *testing.T) {
	odd := api.Lcd{Line: 9, Dot: 7, Lyc: 3, Sel: 255, High: true, Extra: 2}
	lit := odd
	lit.On = true
	for _, w := range []struct {
		l    api.Lcd
		on   bool
		want api.Lcd
		rose bool
	}{
		{odd, false, odd, false}, {lit, true, lit, false},
		{lit, false, api.Lcd{Lyc: 3, Sel: 255}, false},
		// High was true, so that it doesn't rise, though it was off.
		{odd, true, api.Lcd{On: true, Lyc: 3, Sel: 255, High: true}, false},
		{api.Lcd{High: true}, true, api.Lcd{On: true}, false},
		{api.Lcd{}, true, api.Lcd{On: true}, false},
		{api.Lcd{Lyc: 1, Sel: 32}, true, api.Lcd{On: true, Lyc: 1, Sel: 32, High: true}, true},
		{api.Lcd{Sel: 64, Line: 9}, true, api.Lcd{On: true, Sel: 64, High: true}, true},
		{api.Lcd{Sel: 64, Line: 9, Lyc: 9}, true, api.Lcd{On: true, Sel: 64, Lyc: 9}, false},
		{api.Lcd{Sel: 24, Lyc: 9, Dot: 300, Line: 150}, true, api.Lcd{On: true, Sel: 24, Lyc: 9}, false},
		{api.Lcd{On: true, Sel: 64}, false, api.Lcd{Sel: 64}, false},
	} {
		if got, rose := Power(w.l, w.on); got != w.want || rose != w.rose {
			t.Errorf("%+v, %v: %+v, %v", w.l, w.on, got, rose)
		}
	}
}

// P15.4: each place.
func TestReadPlaces(t *testing.T) {
	r := rand.New(rand.NewSource(151))
	for range 20 {
		l := chance(r)
		for addr := range 65536 {
			if got, want := Read(l, uint16(addr)), readOf(l, addr); got != want {
				t.Fatalf("%+v, %04X: %d, not %d", l, addr, got, want)
			}
		}
	}
}

// P15.4, R5: at all edges, each Sel.
func TestReadStat(t *testing.T) {
	edges(edgeBytes, func(l api.Lcd) {
		if got, want := Read(l, stats), readOf(l, stats); got != want {
			t.Fatalf("%+v: %d, not %d", l, got, want)
		}
	})
	for sel := range 256 {
		l := api.Lcd{On: true, Line: 5, Lyc: 6, Dot: 100, Sel: uint8(sel)}
		if got := Read(l, stats); int(got) != 131+upper(l.Sel) {
			t.Errorf("Sel %d: %d", sel, got)
		}
	}
}

// P15.4: written out, the chapter's example first.
func TestReadByHand(t *testing.T) {
	for _, w := range []struct {
		l    api.Lcd
		addr uint16
		want uint8
	}{
		{api.Lcd{On: true, Sel: 64, Line: 5, Lyc: 5}, stats, 198},
		{api.Lcd{On: true, Sel: 64, Line: 5, Lyc: 4}, stats, 194},
		{api.Lcd{}, stats, 132}, {api.Lcd{Lyc: 1}, stats, 128}, {api.Lcd{Lyc: 1, Sel: 255, Dot: 100}, stats, 248},
		{api.Lcd{On: true, Dot: 80}, stats, 135}, {api.Lcd{On: true, Dot: 252}, stats, 132},
		{api.Lcd{On: true, Line: 144, Sel: 135}, stats, 129}, {api.Lcd{On: true, Line: 200, Lyc: 200, Sel: 255}, stats, 253},
		{api.Lcd{Line: 9, Lyc: 200}, lines, 9}, {api.Lcd{On: true, Line: 255}, lines, 255},
		{api.Lcd{Line: 9, Lyc: 200}, lycs, 200}, {api.Lcd{On: true}, lycs, 0},
		{api.Lcd{}, 0xFF40, 255}, {api.Lcd{}, 0xFF42, 255}, {api.Lcd{}, 0xFF43, 255}, {api.Lcd{}, 0xFF46, 255},
		{api.Lcd{}, 0x41, 255}, {api.Lcd{}, 0, 255}, {api.Lcd{}, 0xFFFF, 255},
	} {
		if got := Read(w.l, w.addr); got != w.want {
			t.Errorf("%+v, %04X: %d, not %d", w.l, w.addr, got, w.want)
		}
	}
}

// P15.4: each place; what isn't one of the two changes nothing, High neither.
func TestWritePlaces(t *testing.T) {
	r := rand.New(rand.NewSource(152))
	for range 20 {
		l, v := chance(r), uint8(r.Intn(256))
		for addr := range 65536 {
			got, rose := Write(l, uint16(addr), v)
			if want, wr := written(l, addr, v); got != want || rose != wr {
				t.Fatalf("%+v, %04X, %d: %+v, %v, not %+v, %v", l, addr, v, got, rose, want, wr)
			}
		}
	}
}

// P15.4, R5: each byte, at the edges of lines and dots.
func TestWriteBytes(t *testing.T) {
	for v := range 256 {
		for _, line := range edgeLines {
			for _, dot := range []uint16{0, 79, 80, 251, 252, 455, 65535} {
				for _, sel := range edgeBytes {
					for _, on := range bools {
						for _, up := range bools {
							l := api.Lcd{On: on, Line: line, Dot: dot, Lyc: 5, Sel: sel, High: up, Extra: 6}
							for _, addr := range []int{stats, lycs, lines} {
								got, rose := Write(l, uint16(addr), uint8(v))
								if want, wr := written(l, addr, uint8(v)); got != want || rose != wr {
									t.Fatalf("%+v, %04X, %d: %+v, %v, not %+v, %v", l, addr, v, got, rose, want, wr)
								}
							}
						}
					}
				}
			}
		}
	}
}

// P15.4: written out.
func TestWriteByHand(t *testing.T) {
	for _, w := range []struct {
		l    api.Lcd
		addr uint16
		v    uint8
		want api.Lcd
		rose bool
	}{
		{api.Lcd{On: true, Lyc: 9}, stats, 255, api.Lcd{On: true, Lyc: 9, Sel: 120, High: true}, true},
		{api.Lcd{On: true, Lyc: 9, High: true}, stats, 255, api.Lcd{On: true, Lyc: 9, Sel: 120, High: true}, false},
		{api.Lcd{On: true, Lyc: 9, Sel: 32, High: true}, stats, 24, api.Lcd{On: true, Lyc: 9, Sel: 24}, false},
		{api.Lcd{On: true, Lyc: 9, Sel: 255}, stats, 135, api.Lcd{On: true, Lyc: 9}, false},
		{api.Lcd{High: true}, stats, 255, api.Lcd{Sel: 120}, false},
		{api.Lcd{On: true, Line: 7, Dot: 90, Sel: 64}, lycs, 7, api.Lcd{On: true, Line: 7, Dot: 90, Lyc: 7, Sel: 64, High: true}, true},
		{api.Lcd{On: true, Line: 7, Dot: 90, Lyc: 7, Sel: 64, High: true}, lycs, 8, api.Lcd{On: true, Line: 7, Dot: 90, Lyc: 8, Sel: 64}, false},
		{api.Lcd{On: true, Line: 7, Dot: 90, Sel: 135}, lycs, 7, api.Lcd{On: true, Line: 7, Dot: 90, Lyc: 7, Sel: 135}, false},
		{api.Lcd{Line: 7, Sel: 64, High: true}, lycs, 7, api.Lcd{Line: 7, Lyc: 7, Sel: 64}, false},
		{api.Lcd{On: true, Sel: 32}, lines, 7, api.Lcd{On: true, Sel: 32}, false},
		{api.Lcd{On: true, High: true}, 0xFF40, 0, api.Lcd{On: true, High: true}, false},
	} {
		if got, rose := Write(w.l, w.addr, w.v); got != w.want || rose != w.rose {
			t.Errorf("%+v, %04X, %d: %+v, %v, not %+v, %v", w.l, w.addr, w.v, got, rose, w.want, w.rose)
		}
	}
}

// P15.5: frames behind the switching on: events, and the modes of each line.
func TestFrames(t *testing.T) {
	for _, extra := range []uint16{0, 1, 7, 173, 200, 999} {
		l, _ := Power(api.Lcd{Line: 77, Dot: 99, Extra: 60}, true)
		longer := min(int(extra), 200)
		for frame := range 3 {
			frames, draws := 0, 0
			var modes [154][4]int
			for n := range 70224 {
				if int(l.Line) != n/456 || int(l.Dot) != n%456 {
					t.Fatalf("frame %d, dot %d: %+v", frame, n, l)
				}
				modes[l.Line][Mode(l)]++
				var e api.Event
				l, e = Step(l, extra)
				if e.Frame {
					frames++
				}
				if e.Draw {
					draws++
				}
			}
			if frames != 1 || draws != 144 {
				t.Errorf("extra %d, frame %d: %d frames, %d draws", extra, frame, frames, draws)
			}
			for line, got := range modes {
				want := [4]int{204 - longer, 0, 80, 172 + longer}
				if line >= 144 {
					want = [4]int{0, 456, 0, 0}
				}
				if got != want {
					t.Errorf("extra %d, line %d: %v, not %v", extra, line, got, want)
				}
			}
		}
	}
}

// P15.5: the modes of a line come one behind the other, as told.
func TestModesInOrder(t *testing.T) {
	r := rand.New(rand.NewSource(153))
	l, _ := Power(api.Lcd{}, true)
	for line := range 2 * 154 {
		extra := uint16(r.Intn(300))
		var order []int
		for range 456 {
			if m := Mode(l); len(order) == 0 || order[len(order)-1] != m {
				order = append(order, m)
			}
			l, _ = Step(l, extra)
		}
		if line%154 >= 144 {
			if len(order) != 1 || order[0] != 1 {
				t.Errorf("line %d: %v", line, order)
			}
		} else if len(order) != 3 || order[0] != 2 || order[1] != 3 || order[2] != 0 {
			t.Errorf("line %d: %v", line, order)
		}
	}
}

// P15.2, P15.5: rises of a whole frame, counted for each choice of sources.
func TestRises(t *testing.T) {
	for _, w := range []struct {
		sel, lyc uint8
		want     int
	}{
		{0, 5, 0}, {8, 5, 144}, {16, 5, 1}, {32, 5, 144}, {64, 5, 1}, {64, 153, 1}, {64, 154, 0}, {64, 255, 0},
		// A line's rest and the next one's beginning are one: only the first
		// line's beginning stands alone, and the last one's rest is followed
		// by no such beginning.
		{40, 200, 145},
		// The rest of the last line goes over into the frame's.
		{24, 200, 144},
		// Nothing falls from line 143's rest to the end of line 0's scan.
		{56, 200, 144},
		// A line waited for joins the rests on both sides of it.
		{72, 50, 143},
	} {
		l := api.Lcd{On: true, Lyc: w.lyc, Sel: w.sel}
		// The first frame only brings High to where it stands in all others.
		for range 70224 {
			l, _ = Step(l, 0)
		}
		got := 0
		for range 70224 {
			var e api.Event
			l, e = Step(l, 0)
			if e.Lcd {
				got++
			}
		}
		if got != w.want {
			t.Errorf("Sel %d, Lyc %d: %d rises, not %d", w.sel, w.lyc, got, w.want)
		}
	}
}

// P15.1 to P15.5, R4: long runs by chance against the chapter's words; each
// rise is behind a fall.
func TestRuns(t *testing.T) {
	r := rand.New(rand.NewSource(154))
	for range 200 {
		l := chance(r)
		up := l.High
		for range 3000 {
			want, rise := l, false
			var rose bool
			switch pick := r.Intn(200); {
			case pick == 0:
				on := r.Intn(4) != 0
				want, rise = powered(l, on)
				l, rose = Power(l, on)
			case pick <= 6:
				addr, v := []int{stats, lycs, lines, r.Intn(65536)}[r.Intn(4)], uint8(r.Intn(256))
				if r.Intn(2) == 0 {
					v = l.Line
				}
				want, rise = written(l, addr, v)
				l, rose = Write(l, uint16(addr), v)
			default:
				extra := uint16(r.Intn(400))
				var e, we api.Event
				want, we = stepped(l, extra)
				l, e = Step(l, extra)
				if e != we {
					t.Fatalf("%+v: %+v, not %+v", want, e, we)
				}
				rise, rose = we.Lcd, e.Lcd
			}
			if l != want || rose != rise {
				t.Fatalf("%+v, %v, not %+v, %v", l, rose, want, rise)
			}
			if rose && up {
				t.Fatalf("%+v: a rise without a fall", l)
			}
			up = l.High
			if Mode(l) != modeOf(l) || Source(l) != sourceOf(l) {
				t.Fatalf("%+v: %d, %v", l, Mode(l), Source(l))
			}
		}
	}
}
