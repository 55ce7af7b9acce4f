package machine

import (
	"math"
	"reflect"
	"slices"
	"strings"
	"testing"

	"whirligig/api"
	"whirligig/objects"
	"whirligig/scan"
	"whirligig/solo"
)

// frameCycles are those of a whole frame, firstFrame those from its beginning
// to its last line's end.
const (
	frameCycles = 17556
	firstFrame  = 16416
)

// modeAt is the mode so many dots behind the beginning of a frame, where each
// line's third mode is longer by what extra tells.
func modeAt(dots int, extra func(line int) int) int {
	line, dot := dots%70224/456, dots%456
	switch {
	case line >= 144:
		return 1
	case dot < 80:
		return 2
	case dot < 252+extra(line):
		return 3
	}
	return 0
}

// noExtra is that of lines without objects.
func noExtra(int) int { return 0 }

// The picture keeps the processor's reads away, by its modes at the beginning
// of the cycle; the transfer and Peek it doesn't (P24.2, P24.4).
func TestReadsWhileDrawn(t *testing.T) {
	cases := []struct {
		place string
		addr  uint16
		shut  []int
		held  uint8
	}{
		{"8000", 0x8000, []int{3}, 5}, {"9FFF", 0x9fff, []int{3}, 5}, {"FE00", 0xfe00, []int{2, 3}, 5}, {"FE9F", 0xfe9f, []int{2, 3}, 5},
		{"FEA0", 0xfea0, nil, 255}, {"C000", 0xc000, nil, 5}, {"FF90", 0xff90, nil, 5},
	}
	for _, c := range cases {
		m := plain(t, "LD HL,$"+c.place, "LD A,(HL)", "JR $FD")
		put(m, c.addr, 5)
		reads := [4]int{}
		for n := range frameCycles + 2000 {
			e := m.Step(api.Input{})
			if e.Act.Kind != api.ActRead || e.Act.Addr != c.addr {
				continue
			}
			mode := modeAt(4*n, noExtra)
			reads[mode]++
			want := c.held
			if slices.Contains(c.shut, mode) {
				want = 255
			}
			if e.Act.Data != want || m.Peek(c.addr) != c.held {
				t.Fatalf("cycle %d, mode %d: %+v, peeked %d", n, mode, e, m.Peek(c.addr))
			}
		}
		if slices.Min(reads[:]) < 100 {
			t.Errorf("%s: %v", c.place, reads)
		}
	}
}

// Likewise writes (P24.2).
func TestWritesWhileDrawn(t *testing.T) {
	cases := []struct {
		place string
		addr  uint16
		shut  []int
	}{{"8000", 0x8000, []int{3}}, {"FE00", 0xfe00, []int{2, 3}}, {"C000", 0xc000, nil}}
	for _, c := range cases {
		m := plain(t, "LD HL,$"+c.place, "INC A", "LD (HL),A", "JR $FC")
		var held uint8
		for n := range frameCycles + 2000 {
			e := m.Step(api.Input{})
			if e.Act.Kind == api.ActWrite && !slices.Contains(c.shut, modeAt(4*n, noExtra)) {
				held = e.Act.Data
			}
			if m.Peek(c.addr) != held {
				t.Fatalf("cycle %d: %+v, peeked %d, want %d", n, e, m.Peek(c.addr), held)
			}
		}
	}
}

// While the picture keeps the processor away, the transfer reads the tiles'
// memory, and lays bytes into the objects, all the same (P24.2).
func TestTransferWhileDrawn(t *testing.T) {
	m := plain(t, append(slices.Repeat([]string{"NOP"}, 14), copyLines("90", "LD A,($8000)", "JR $FE")...)...)
	put(m, 0x9000, rising(50)...)
	until(t, m, "W FF46=90")
	wantPeek(t, m, 0xff41, 135)
	all := run(m, 4, api.Input{})
	if e := all[3]; solo.Line(e.Act) != "R 8000=34" || e.Src != 0x9002 {
		t.Errorf("%+v", e)
	}
	for i, v := range []uint8{50, 51, 52, 0} {
		wantPeek(t, m, 0xfe00+uint16(i), v)
	}
}

// Frames come one in 17556 cycles, each with its interrupt, and each is that of
// the records (P24.2, P24.6).
func TestFrames(t *testing.T) {
	m := plain(t, "XOR A", "LDH ($0F),A", "JR $FC")
	frames := 0
	for n := 1; n <= 3*frameCycles; n++ {
		before := m.Ints().If
		e := m.Step(api.Input{})
		comes := n%frameCycles == firstFrame
		if comes {
			frames++
		}
		if m.Frames() != frames || comes && e.If&1 == 0 || !comes && e.If&^before&1 != 0 {
			t.Fatalf("cycle %d: %d frames, want %d, If %d", n, m.Frames(), frames, e.If)
		}
		if (len(m.Frame()) == 23040) != (frames > 0) {
			t.Fatalf("cycle %d: a frame of %d shades", n, len(m.Frame()))
		}
	}
}

// busy is a program that turns all that lines are drawn from, at all times.
func busy() []string {
	lines := []string{"LD HL,$8000", "LD BC,$FE00"}
	// The loop begins here.
	for _, reg := range []string{"42", "43", "47", "48", "49", "4A", "4B"} {
		lines = append(lines, "INC D", "LD A,D", "LDH ($"+reg+"),A")
	}
	lines = append(lines, "OR $81", "LDH ($40),A", "LD (HL+),A", "RES 5,H", "LD (BC),A", "INC C", "JP $0156")
	return lines
}

// draws is the line whose record a cycle (from 0 on) makes, and whether it
// makes one.
func draws(n int) (int, bool) {
	n %= frameCycles
	return n / 114, n/114 < 144 && n%114 == 19
}

// peeked is the record that a line would have now.
func peeked(m *Machine) api.Video {
	v := api.Video{
		Ctl: m.Peek(0xff40), Scy: m.Peek(0xff42), Scx: m.Peek(0xff43), Wy: m.Peek(0xff4a), Wx: m.Peek(0xff4b),
		Bgp: m.Peek(0xff47), Obp0: m.Peek(0xff48), Obp1: m.Peek(0xff49),
	}
	for i := range 8192 {
		v.Vram = append(v.Vram, m.Peek(0x8000+uint16(i)))
	}
	for i := range 160 {
		v.Oam = append(v.Oam, m.Peek(0xfe00+uint16(i)))
	}
	return v
}

// Each line's record is what stood there in the cycle in which it began to be
// drawn, and stays till the line is drawn again; a frame is drawn from these
// (P24.2, P24.4, P24.6, P4).
func TestRecords(t *testing.T) {
	m := plain(t, busy()...)
	want := make([]api.Video, 144)
	there := make([]bool, 144)
	var last []uint8
	for n := range 2*frameCycles + 500 {
		m.Step(api.Input{})
		if y, ok := draws(n); ok {
			want[y], there[y] = peeked(m), true
		}
		if (n+1)%frameCycles == firstFrame {
			last = scan.Frame(want)
		}
		if n%1009 != 0 && n+1 != 2*frameCycles+500 {
			continue
		}
		for y := range 144 {
			if got, ok := m.Record(y); ok != there[y] || ok && !reflect.DeepEqual(got, want[y]) {
				t.Fatalf("cycle %d, line %d: %v, want %v, or another one", n, y, ok, there[y])
			}
		}
		if !slices.Equal(m.Frame(), last) {
			t.Fatalf("cycle %d: another frame", n)
		}
	}
	if !strings.ContainsAny(scan.Text(last), "123") {
		t.Error("nothing is to be seen")
	}
	unlike := map[uint8]int{}
	for _, v := range want {
		unlike[v.Scx]++
	}
	if len(unlike) < 20 {
		t.Errorf("%d unlike records", len(unlike))
	}
}

// Lines that there aren't (P24.4).
func TestRecordOfNone(t *testing.T) {
	m := plain(t, "JR $FE")
	run(m, firstFrame, api.Input{})
	for _, y := range []int{-1, 144, 153, 154, 255, 256, math.MinInt, math.MaxInt} {
		if v, ok := m.Record(y); ok || !reflect.DeepEqual(v, api.Video{}) {
			t.Errorf("Record(%d)", y)
		}
	}
	for _, y := range []int{0, 143} {
		if _, ok := m.Record(y); !ok {
			t.Errorf("no Record(%d)", y)
		}
	}
}

// A picture as a program lays it: a tile of the ground, scrolled from a line
// on, and an object ahead of it (P4, P24.6).
func TestPicture(t *testing.T) {
	m := plain(t,
		"LD A,$E4", "LDH ($47),A", "LDH ($48),A", "LD A,$93", "LDH ($40),A", "LD A,$50", "LDH ($45),A",
		"LDH A,($41)", "BIT 2,A", "JR Z,$FA", "LD A,$01", "LDH ($43),A", "JR $FE")
	for i := range 8 {
		put(m, uint16(0x8000+2*i), 0x80, 0) // the ground's one tile: color 1 in its first column
		put(m, uint16(0x8010+2*i), 0xff, 0xff)
	}
	put(m, 0xfe00, 16+100, 8+40, 1, 0)
	run(m, frameCycles, api.Input{})
	shown := m.Frame()
	line := func(y int) string { return scan.Text(shown[160*y : 160*y+160]) }
	plainLine := strings.Repeat("10000000", 20)
	moved := strings.Repeat("00000001", 20)
	for y := range 144 {
		want := plainLine
		if y > 79 {
			want = moved
		}
		if y >= 100 && y < 108 {
			want = want[:40] + "33333333" + want[48:]
		}
		if y == 80 {
			continue // the program may be behind its beginning
		}
		if line(y) != want {
			t.Errorf("line %d:\n got %s\nwant %s", y, line(y), want)
		}
	}
}

// Switched off: no frame, no line, no record; the last frame stays. Switched on
// again: from the first dot on, in the cycle of the write (Words, P24.6).
func TestPower(t *testing.T) {
	m := plain(t, "LDH A,($44)", "CP $96", "JR NZ,$FA", "XOR A", "LDH ($40),A", "LD A,$80", "LDH ($40),A", "JR $FE")
	until(t, m, "W FF40=00")
	if m.Frames() != 1 {
		t.Fatal(m.Frames())
	}
	last := m.Frame()
	for y := range 144 {
		if _, ok := m.Record(y); ok {
			t.Errorf("there is a Record(%d)", y)
		}
	}
	wantPeek(t, m, 0xff41, 132)
	wantPeek(t, m, 0xff44, 0)
	wantPeek(t, m, 0xff40, 0)
	until(t, m, "W FF40=80")
	for n := 1; n < firstFrame; n++ {
		if (m.Frames() != 1) || int(m.Peek(0xff44)) != n/114 || m.Peek(0xff41)&3 != uint8(modeAt(4*n, noExtra)) || !slices.Equal(m.Frame(), last) {
			t.Fatalf("%d cycles behind it: %d frames, line %d, %d", n, m.Frames(), m.Peek(0xff44), m.Peek(0xff41))
		}
		y, drawn := n/114, n%114 >= 20
		if _, ok := m.Record(y); ok != drawn {
			t.Fatalf("%d cycles behind it: line %d: %v", n, y, ok)
		}
		m.Step(api.Input{})
	}
	if m.Frames() != 2 {
		t.Errorf("%d frames", m.Frames())
	}
}

// While it stays off there is no frame, no line and no interrupt of its own,
// and nobody is kept away (P24.6).
func TestOff(t *testing.T) {
	m := plain(t, "XOR A", "LDH ($40),A", "LDH ($0F),A", "LD A,$78", "LDH ($41),A", "LD HL,$8000", "INC (HL)", "JR $FD")
	until(t, m, "W FF41=78")
	for n, e := range run(m, 3*frameCycles, api.Input{}) {
		if e.If != 0 {
			t.Fatalf("cycle %d: %+v", n, e)
		}
	}
	wantPeek(t, m, 0xff41, 128|0x78|4)
	wantPeek(t, m, 0xff44, 0)
	if _, ok := m.Record(0); ok || m.Frames() != 0 || m.Peek(0x8000) == 0 {
		t.Error("a record, a frame, or a byte that couldn't be written")
	}
}

// A write to FF40 of a picture that is on leaves it where it is, and its
// records (Words).
func TestCtlWhileOn(t *testing.T) {
	m := plain(t, "LDH A,($44)", "CP $05", "JR NZ,$FA", "LD A,$80", "LDH ($40),A", "JR $FE")
	until(t, m, "W FF40=80")
	wantPeek(t, m, 0xff44, 5)
	wantPeek(t, m, 0xff40, 0x80)
	for y, want := range map[int]bool{0: true, 4: true, 6: false} {
		if _, ok := m.Record(y); ok != want {
			t.Errorf("Record(%d): %v", y, ok)
		}
	}
	run(m, 200, api.Input{})
	if v, ok := m.Record(6); !ok || v.Ctl != 0x80 {
		t.Errorf("%v, Ctl %d", ok, v.Ctl)
	}
}

// IntLcd is asked for by the dots, by writes to FF41 and FF45, and where the
// picture is switched on (P24.2, Words).
func TestLcdAsks(t *testing.T) {
	m := plain(t, "XOR A", "LDH ($0F),A", "LD A,$05", "LDH ($45),A", "LD A,$40", "LDH ($41),A", "JR $FE")
	for n := range 114 * 6 {
		e := m.Step(api.Input{})
		if n > 20 && e.If>>1 != uint8(b2i(n >= 114*5-1)) {
			t.Fatalf("cycle %d: If %d", n, e.If)
		}
	}

	m = plain(t, "LD A,$40", "LDH ($41),A", "JR $FE")
	if e := until(t, m, "W FF41=40"); e.If != 3 {
		t.Errorf("FF41: If %d", e.If)
	}

	m = plain(t, "LD A,$40", "LDH ($45),A", "LDH ($41),A", "XOR A", "LDH ($45),A", "JR $FE")
	if e := until(t, m, "W FF41=40"); e.If != 1 {
		t.Errorf("FF41, another line: If %d", e.If)
	}
	if e := until(t, m, "W FF45=00"); e.If != 3 {
		t.Errorf("FF45: If %d", e.If)
	}

	m = plain(t, "XOR A", "LDH ($40),A", "LD A,$40", "LDH ($41),A", "LD A,$80", "LDH ($40),A", "LDH ($40),A", "JR $FE")
	if e := until(t, m, "W FF41=40"); e.If != 1 {
		t.Errorf("FF41, off: If %d", e.If)
	}
	if e := until(t, m, "W FF40=80"); e.If != 3 {
		t.Errorf("switched on: If %d", e.If)
	}

	// FF44 can't be written, and asks for nothing.
	m = plain(t, "LD A,$40", "LDH ($45),A", "LDH ($41),A", "LDH ($44),A", "JR $FE")
	if e := until(t, m, "W FF44=40"); e.If != 1 || m.Peek(0xff44) != 0 {
		t.Errorf("FF44: %+v", e)
	}
}

// b2i is 1 of true.
func b2i(b bool) int {
	if b {
		return 1
	}
	return 0
}

// A line is longer by its objects and by Scx: none without bit 1 of Ctl, tall
// ones with bit 2 (P24.2).
func TestExtra(t *testing.T) {
	oam := []byte{30, 8, 0, 0, 33, 20, 1, 0, 40, 167, 2, 0, 60, 168, 3, 0, 0, 0, 0, 0, 100, 0, 0, 0, 100, 3, 0, 0}
	for k := range 12 {
		oam = append(oam, 140, uint8(9*k), 0, 0)
	}
	for _, ctl := range []uint8{0x80, 0x82, 0x84, 0x86} {
		for _, scx := range []uint8{0, 1, 5, 7, 8, 255} {
			m := plain(t, "XOR A", "LDH ($40),A", "LD A,B", "LDH ($43),A", "LD A,C", "LDH ($40),A", "JR $FE")
			put(m, 0xfe00, oam...)
			m.cpu.R.B, m.cpu.R.C = scx, ctl
			for e := (api.Entry{}); e.Act.Kind != api.ActWrite || e.Act.Data != ctl || e.Act.Addr != 0xff40; {
				e = m.Step(api.Input{})
			}
			extra := func(line int) int {
				if ctl&2 == 0 {
					return objects.Extra(nil, scx)
				}
				return objects.Extra(objects.Scan(oam, line, ctl&4 != 0), scx)
			}
			for n := 1; n < frameCycles; n++ {
				if got, want := m.Peek(0xff41)&3, modeAt(4*n, extra); int(got) != want {
					t.Fatalf("Ctl %02X, Scx %d, %d cycles: mode %d, want %d", ctl, scx, n, got, want)
				}
				m.Step(api.Input{})
			}
		}
	}
}
