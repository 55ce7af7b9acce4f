package machine

import (
	"slices"
	"testing"

	"whirligig/api"
	"whirligig/listing"
	"whirligig/solo"
)

// copyLines are a program that asks for a transfer, with more lines behind it.
func copyLines(page string, more ...string) []string {
	return append([]string{"LD A,$" + page, "LDH ($46),A"}, more...)
}

// put lays bytes into a machine's own memories.
func put(m *Machine, addr uint16, b ...byte) {
	for i, v := range b {
		m.memory.Put(addr+uint16(i), v)
	}
}

// rising are 160 bytes, from a number on.
func rising(first uint8) []byte {
	b := make([]byte, 160)
	for i := range b {
		b[i] = first + uint8(i)
	}
	return b
}

// inHram is a machine whose program goes on in a place of its own memory while
// a transfer copies from a page; the picture is off.
func inHram(t *testing.T, kind uint8, page string, lines ...string) *Machine {
	t.Helper()
	m := start(t, whole(t, kind, 2, "XOR A", "LDH ($40),A", "JP $FF80"))
	code, e := listing.All(copyLines(page, lines...))
	if e != api.OK {
		t.Fatal(e)
	}
	put(m, 0xff80, code...)
	return m
}

// A transfer, cycle by cycle: which bytes, when and where to (P24.2, P24.3).
func TestTransfer(t *testing.T) {
	m := plain(t, copyLines("90", "JR $FE")...)
	put(m, 0x9000, rising(1)...)
	if e := until(t, m, "W FF46=90"); e.Dma {
		t.Errorf("%+v", e)
	}
	wantPeek(t, m, 0xff46, 0x90)
	for i, e := range run(m, 200, api.Input{}) {
		copies, from := i >= 1 && i <= 160, uint16(0)
		if copies {
			from = 0x9000 + uint16(i-1)
		}
		if e.Dma != copies || e.Src != from {
			t.Errorf("cycle %d: %v %04X", i, e.Dma, e.Src)
		}
	}
	for i, v := range rising(1) {
		wantPeek(t, m, 0xfe00+uint16(i), v)
	}
	wantPeek(t, m, 0xff46, 0x90)
}

// Each byte is laid in the cycle that copies it, and in none ahead of it, while
// the picture keeps the processor away (P24.2).
func TestTransferLays(t *testing.T) {
	m := plain(t, copyLines("90", "JR $FE")...)
	put(m, 0x9000, rising(1)...)
	until(t, m, "W FF46=90")
	m.Step(api.Input{})
	for i, v := range rising(1) {
		wantPeek(t, m, 0xfe00+uint16(i), 0)
		m.Step(api.Input{})
		wantPeek(t, m, 0xfe00+uint16(i), v)
	}
}

// A transfer from the cartridge, from its RAM, and from pages that stand for
// others (P24.2).
func TestTransferFrom(t *testing.T) {
	pages := []struct {
		page string
		from uint16
	}{{"00", 0}, {"01", 0x100}, {"7F", 0x7f00}, {"80", 0x8000}, {"A0", 0xa000}, {"BF", 0xbf00}, {"C0", 0xc000}, {"DF", 0xdf00}, {"E0", 0xc000}, {"FE", 0xde00}, {"FF", 0xdf00}}
	for _, c := range pages {
		m := inHram(t, 9, c.page, "JR $FE")
		put(m, 0x8000, rising(3)...)
		put(m, 0xc000, rising(5)...)
		put(m, 0xde00, rising(7)...)
		put(m, 0xdf00, rising(9)...)
		until(t, m, "W FF46="+c.page)
		all := run(m, 170, api.Input{})
		for i := range 160 {
			from := c.from + uint16(i)
			if e := all[1+i]; !e.Dma || e.Src != from {
				t.Fatalf("page %s, byte %d: %+v", c.page, i, e)
			}
			wantPeek(t, m, 0xfe00+uint16(i), m.Peek(from))
		}
	}
}

// A second one while the first one goes on: that copies up to the cycle behind
// the write (P24.2).
func TestTransferAgain(t *testing.T) {
	m := plain(t, copyLines("90", "LD A,$91", "LDH ($46),A", "JR $FE")...)
	put(m, 0x9000, rising(1)...)
	put(m, 0x9100, rising(100)...)
	until(t, m, "W FF46=91")
	var from []uint16
	for _, e := range run(m, 200, api.Input{}) {
		if e.Dma {
			from = append(from, e.Src)
		}
	}
	if len(from) != 161 || from[0] != 0x9004 || from[1] != 0x9100 || from[160] != 0x919f {
		t.Errorf("%d: %04X", len(from), from)
	}
	for i, v := range rising(100) {
		wantPeek(t, m, 0xfe00+uint16(i), v)
	}
}

// A transfer from the program's own wires: the processor reads, and fetches,
// what is copied, and what it writes there is lost; the entry tells what it
// would have written (P24.2, P24.3).
func TestMeets(t *testing.T) {
	m := start(t, whole(t, 3, 2, copyLines("C0", "LD A,$55")...))
	// As the processor gets them: 0A for A; LD (HL),A; a cycle that writes; LD (C3A8),A.
	put(m, 0xc000, 0x0a, 0x77, 0, 0xea, 0xa8, 0xc3)
	until(t, m, "W FF46=C0")
	all := wantLines(t, m, "F 0154=3E", "R 0155=0A", "F 0156=77", "W 014D=0A", "F 0157=EA", "R 0158=A8", "R 0159=C3", "W C3A8=0A", "F 015A=00")
	for i, e := range all {
		if e.Dma != (i > 0) || e.Dma && e.Src != 0xc000+uint16(i-1) {
			t.Errorf("cycle %d: %+v", i, e)
		}
	}
	wantPeek(t, m, 0xa000, 255) // 0A below 2000 would have opened it
	wantPeek(t, m, 0xc3a8, 0)
}

// From the tiles' memory: a program there reads what is copied, one elsewhere
// goes on as ever.
func TestMeetsTiles(t *testing.T) {
	m := inHram(t, 0, "81", "NOP", "LD A,($8000)", "LD ($8001),A", "LD A,($C000)", "LD ($C001),A", "LD A,($0151)")
	put(m, 0x8100, rising(0x20)...)
	put(m, 0xc000, 0x66)
	until(t, m, "W FF46=81")
	wantLines(t, m, "F FF84=00", "F FF85=FA", "R FF86=00", "R FF87=80", "R 8000=23", "F FF88=EA", "R FF89=01", "R FF8A=80", "W 8001=23",
		"F FF8B=FA", "R FF8C=00", "R FF8D=C0", "R C000=66", "F FF8E=EA", "R FF8F=01", "R FF90=C0", "W C001=66", "F FF91=FA", "R FF92=51", "R FF93=01", "R 0151=E0")
	wantPeek(t, m, 0x8001, 0)
	wantPeek(t, m, 0xc001, 0x66)
}

// While a transfer copies from the work memory: reads of its wires tell the
// byte that is copied; the objects are shut; all else is as ever. Peek tells
// what would be read, if nobody copied (P24.2, P24.4).
func TestReadsWhileCopied(t *testing.T) {
	cases := []struct {
		place  string
		addr   uint16
		read   string
		peeked uint8
	}{
		{"C155", 0xc155, "R C155=07", 0x55}, {"E155", 0xe155, "R E155=07", 0x55}, {"0101", 0x101, "R 0101=07", 0xc3}, {"4000", 0x4000, "R 4000=07", 0},
		{"A000", 0xa000, "R A000=07", 0}, {"8010", 0x8010, "R 8010=42", 0x42}, {"FE00", 0xfe00, "R FE00=FF", 0}, {"FE9F", 0xfe9f, "R FE9F=FF", 0x43},
		{"FEA0", 0xfea0, "R FEA0=FF", 255}, {"FF47", 0xff47, "R FF47=FC", 0xfc}, {"FFFF", 0xffff, "R FFFF=00", 0}, {"FFA0", 0xffa0, "R FFA0=44", 0x44},
		{"FF46", 0xff46, "R FF46=C1", 0xc1},
	}
	for _, c := range cases {
		m := inHram(t, 9, "C1", "NOP", "NOP", "NOP", "NOP", "NOP", "LD A,($"+c.place+")")
		put(m, 0xc100, rising(0)...)
		put(m, 0x8010, 0x42)
		put(m, 0xfe9f, 0x43)
		put(m, 0xffa0, 0x44)
		until(t, m, "W FF46=C1")
		all := run(m, 9, api.Input{})
		if e := all[8]; e.Src != 0xc107 || solo.Line(e.Act) != c.read {
			t.Errorf("%s: %s, %+v", c.place, solo.Line(e.Act), e)
		}
		wantPeek(t, m, c.addr, c.peeked)
	}
}

// Likewise writes: they are lost on its wires and in the objects, and done
// elsewhere (P24.2).
func TestWritesWhileCopied(t *testing.T) {
	cases := []struct {
		place string
		addr  uint16
		lost  bool
	}{
		{"C355", 0xc355, true}, {"E355", 0xe355, true}, {"A000", 0xa000, true}, {"FE9F", 0xfe9f, true},
		{"8010", 0x8010, false}, {"FF47", 0xff47, false}, {"FFFF", 0xffff, false}, {"FFA0", 0xffa0, false},
	}
	for _, c := range cases {
		m := inHram(t, 9, "C1", "LD A,$5C", "LD ($"+c.place+"),A", "JR $FE")
		until(t, m, "W FF46=C1")
		before := m.Peek(c.addr)
		if e := until(t, m, "W "+c.place+"=5C"); !e.Dma {
			t.Errorf("%s: %+v", c.place, e)
		}
		want := before
		if !c.lost {
			want = 0x5c
		}
		wantPeek(t, m, c.addr, want)
	}
}

// From the cycle of the first byte on the objects are shut, and in that behind
// the last one no more (P24.2).
func TestOnlyWhileCopied(t *testing.T) {
	asked := map[int]bool{}
	for pause := range 5 {
		m := inHram(t, 0, "C1", append(slices.Repeat([]string{"NOP"}, pause), "LD HL,$FE9F", "LD A,(HL)", "JR $FD")...)
		put(m, 0xc19f, 0x31)
		put(m, 0xfe9f, 0x30)
		until(t, m, "W FF46=C1")
		for i := range 300 {
			e := m.Step(api.Input{})
			if e.Act.Kind != api.ActRead || e.Act.Addr != 0xfe9f {
				continue
			}
			asked[i] = true
			want := uint8(0x31)
			if i >= 1 && i <= 160 {
				want = 255
			}
			if e.Act.Data != want {
				t.Errorf("cycle %d: %+v", i, e)
			}
		}
	}
	if !asked[160] || !asked[161] {
		t.Error("the edge wasn't asked")
	}
	m := inHram(t, 0, "C1", "LD A,(HL)")
	m.cpu.R.H, m.cpu.R.L = 0xfe, 0x9f
	put(m, 0xfe9f, 0x30)
	until(t, m, "W FF46=C1")
	wantLines(t, m, "F FF84=7E", "R FE9F=FF")
}
