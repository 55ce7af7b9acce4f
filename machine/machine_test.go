package machine

import (
	"slices"
	"testing"

	"whirligig/api"
	"whirligig/cpu"
	"whirligig/header"
	"whirligig/listing"
	"whirligig/solo"
)

// bootCycles are those from the start to the fetch of a program's first byte,
// at 0150.
const bootCycles = 5

// whole is an image of that kind whose program are these lines; it has all its
// bytes, so that no place of it stands for another one.
func whole(t testing.TB, kind, ram uint8, lines ...string) []byte {
	t.Helper()
	code, e := listing.All(lines)
	if e != api.OK {
		t.Fatalf("All(%q): %d", lines, e)
	}
	code = append(code, make([]byte, 32768-api.HeadSize-len(code))...)
	image, e := header.Make("TEST", kind, 0, ram, code)
	if e != api.OK {
		t.Fatalf("Make: %d", e)
	}
	return image
}

// start is a machine with an image.
func start(t testing.TB, image []byte) *Machine {
	t.Helper()
	m, e := New(image)
	if e != api.OK || m == nil {
		t.Fatalf("New: %d", e)
	}
	return m
}

// plain is a machine whose program are these lines, of a kind that has neither
// RAM nor clock.
func plain(t testing.TB, lines ...string) *Machine {
	t.Helper()
	return start(t, whole(t, 0, 0, lines...))
}

// run are so many cycles with one input; the entries are told.
func run(m *Machine, n int, in api.Input) []api.Entry {
	all := make([]api.Entry, n)
	for i := range all {
		all[i] = m.Step(in)
	}
	return all
}

// until runs till a cycle's act is of that line, and tells its entry.
func until(t testing.TB, m *Machine, line string) api.Entry {
	t.Helper()
	for range 100000 {
		if e := m.Step(api.Input{}); solo.Line(e.Act) == line {
			return e
		}
	}
	t.Fatalf("there is no %s", line)
	return api.Entry{}
}

// linesOf are the lines of entries.
func linesOf(l []api.Entry) []string {
	var acts []api.Act
	for _, e := range l {
		acts = append(acts, e.Act)
	}
	return solo.Trace(acts)
}

// wantLines runs as many cycles as there are lines, and holds them against
// these; the entries are told.
func wantLines(t *testing.T, m *Machine, lines ...string) []api.Entry {
	t.Helper()
	all := run(m, len(lines), api.Input{})
	if got := linesOf(all); !slices.Equal(got, lines) {
		t.Errorf("\n got %q\nwant %q", got, lines)
	}
	return all
}

// wantPeek holds a place against a byte.
func wantPeek(t *testing.T, m *Machine, addr uint16, want uint8) {
	t.Helper()
	if got := m.Peek(addr); got != want {
		t.Errorf("Peek(%04X): %02X, want %02X", addr, got, want)
	}
}

// The chapter's example, with all that an entry has (P24.2, P24.3).
func TestExample(t *testing.T) {
	code := []byte{62, 7, 234, 0, 192}
	image, _ := header.Make("TEST", 0, 0, 0, code)
	m := start(t, image)
	act := func(kind int, addr uint16, data uint8, mark int) api.Entry {
		return api.Entry{Act: api.Act{Kind: kind, Addr: addr, Data: data}, If: 1, Mark: mark}
	}
	want := []api.Entry{
		act(1, 0x100, 0, 1), act(1, 0x101, 0xc3, 1), act(2, 0x102, 0x50, 0), act(2, 0x103, 1, 0), act(0, 0, 0, 0),
		act(1, 0x150, 0x3e, 1), act(2, 0x151, 7, 0), act(1, 0x152, 0xea, 1), act(2, 0x153, 0, 0), act(2, 0x154, 0xc0, 0), act(3, 0xc000, 7, 0),
	}
	for i, w := range want {
		if got := m.Step(api.Input{}); got != w {
			t.Errorf("cycle %d:\n got %+v\nwant %+v", i, got, w)
		}
	}
	wantPeek(t, m, 0xc000, 7)
	wantPeek(t, m, 0xe000, 7)
}

// What New refuses: the cartridge's errors, in their order (P24.1).
func TestNewErrors(t *testing.T) {
	good := whole(t, 3, 2, "NOP")
	with := func(at int, v byte) []byte {
		b := slices.Clone(good)
		b[at] = v
		return b
	}
	cases := []struct {
		name  string
		image []byte
		want  api.Errno
	}{
		{"nil", nil, api.ErrShort},
		{"empty", []byte{}, api.ErrShort},
		{"335 bytes", good[:335], api.ErrShort},
		{"kind", with(327, 4), api.ErrKind},
		{"rom", with(328, 9), api.ErrSize},
		{"ram", with(329, 6), api.ErrSize},
		{"too long", append(slices.Clone(good), 0), api.ErrSize},
		{"sum", with(308, 'X'), api.ErrSum},
		{"whole", with(334, good[334]+1), api.OK},
		{"a head alone", good[:336], api.OK},
	}
	for _, c := range cases {
		m, e := New(c.image)
		if e != c.want || (m == nil) != (e != api.OK) {
			t.Errorf("%s: %v, %d, want %d", c.name, m != nil, e, c.want)
		}
	}
}

// startIo are the registers behind the start that aren't 255 (P24.1).
var startIo = map[int]uint8{
	0xff00: 207, 0xff01: 0, 0xff02: 126, 0xff04: 0xab, 0xff05: 0, 0xff06: 0, 0xff07: 248, 0xff0f: 225,
	0xff40: 145, 0xff41: 134, 0xff42: 0, 0xff43: 0, 0xff44: 0, 0xff45: 0, 0xff46: 0, 0xff47: 252,
	0xff48: 0, 0xff49: 0, 0xff4a: 0, 0xff4b: 0, 0xffff: 0,
}

// The machine behind the start, place by place (P24.1, P24.4).
func TestStart(t *testing.T) {
	image := whole(t, 0, 0, "LD A,$12", "JP $7FFF")
	m := start(t, image)
	for addr := range 65536 {
		want, ok := startIo[addr]
		switch {
		case ok:
		case addr < 0x8000:
			want = image[addr]
		case addr >= 0xa000 && addr < 0xc000, addr >= 0xfea0 && addr < 0xff80:
			want = 255
		}
		wantPeek(t, m, uint16(addr), want)
	}
	if m.Cpu() != cpu.Boot() || m.Ints() != (api.Ints{If: 1}) {
		t.Errorf("%+v, %+v", m.Cpu(), m.Ints())
	}
	if _, ok := m.Record(0); ok || m.Frames() != 0 || len(m.Frame()) != 0 || len(m.Save()) != 0 {
		t.Error("records, frames, or what is saved")
	}
}

// What of the start isn't seen at once: the low bits of Div, the dots, and
// that no key was seen (P24.1).
func TestStartGoesOn(t *testing.T) {
	m := plain(t, "JR $FE")
	run(m, 12, api.Input{})
	wantPeek(t, m, 0xff04, 0xab)
	m.Step(api.Input{})
	wantPeek(t, m, 0xff04, 0xac)
	run(m, 6, api.Input{})
	wantPeek(t, m, 0xff41, 134)
	m.Step(api.Input{})
	wantPeek(t, m, 0xff41, 135)
	m = plain(t, "JR $FE")
	if e := m.Step(api.Input{Keys: 64}); e.If != 17 {
		t.Errorf("If %d behind a key", e.If)
	}
	m = plain(t, "JR $FE")
	if e := m.Step(api.Input{}); e.If != 1 {
		t.Errorf("If %d without a key", e.If)
	}
}

// What no New gave (Words: Nobody's).
func TestNobodys(t *testing.T) {
	for _, m := range []*Machine{nil, {}, new(Machine)} {
		for range 2 {
			e := m.Step(api.Input{Keys: 255, Bit: true, Clock: true, Tick: true})
			_, ok := m.Record(0)
			told := m.Cpu() != (api.Cpu{}) || m.Ints() != (api.Ints{}) || m.Frames() != 0 || len(m.Frame()) != 0 || len(m.Save()) != 0
			if e != (api.Entry{}) || ok || told {
				t.Errorf("%+v, %v, %v", e, ok, told)
			}
			for _, b := range [][]byte{nil, {}, {1}, make([]byte, 10)} {
				if e := m.Load(b); e != api.ErrNone {
					t.Errorf("Load: %d", e)
				}
			}
			for addr := range 65536 {
				wantPeek(t, m, uint16(addr), 255)
			}
		}
	}
}

// writeLines are lines that write a byte to a place, with the picture off.
func writeLines(addr uint16, v uint8) []string {
	digits := func(n int, width int) string {
		const hex = "0123456789ABCDEF"
		s := ""
		for range width {
			s, n = string(hex[n%16])+s, n/16
		}
		return s
	}
	return []string{"XOR A", "LDH ($40),A", "LD A,$" + digits(int(v), 2), "LD ($" + digits(int(addr), 4) + "),A", "JR $FE"}
}

// written is what is read of a register to which v was written, with nothing
// held and the picture off.
func written(addr int, v uint8) uint8 {
	switch addr {
	case 0xff00:
		return 192 | v&48 | 15
	case 0xff02:
		return 126 | v&129
	case 0xff04, 0xff44:
		return 0
	case 0xff07:
		return 248 | v&7
	case 0xff0f:
		return 224 | v&31
	case 0xff41:
		return 128 | v&120 | 4
	}
	if _, ok := startIo[addr]; ok || addr >= 0xff80 {
		return v
	}
	return 255
}

// behindWrite is a machine whose program wrote a byte to a place.
func behindWrite(t *testing.T, addr uint16, v uint8) *Machine {
	t.Helper()
	m := plain(t, writeLines(addr, v)...)
	all := run(m, bootCycles+10, api.Input{})
	if last := all[len(all)-1].Act; last != (api.Act{Kind: api.ActWrite, Addr: addr, Data: v}) {
		t.Fatalf("%+v", last)
	}
	return m
}

// Every place from FF00 on is written and read by the part that it is; the
// others stay as they are where nothing was written (Words).
func TestRegisters(t *testing.T) {
	for addr := 0xff00; addr <= 0xffff; addr++ {
		for _, v := range []uint8{0x00, 0x24, 0x5a, 0x7f} {
			m, none := behindWrite(t, uint16(addr), v), behindWrite(t, 0xff10, v)
			wantPeek(t, m, uint16(addr), written(addr, v))
			for other := 0xff00; other <= 0xffff; other++ {
				turned := other == addr || addr == 0xff45 && other == 0xff41
				if !turned && m.Peek(uint16(other)) != none.Peek(uint16(other)) {
					t.Errorf("%04X is turned by %04X", other, addr)
				}
			}
		}
	}
}

// The memories' places, each written alone (Words).
func TestMemories(t *testing.T) {
	cases := []struct{ addr, same uint16 }{
		{0x8000, 0x8000}, {0x9fff, 0x9fff}, {0xc000, 0xe000}, {0xddff, 0xfdff}, {0xdfff, 0xdfff}, {0xe000, 0xc000}, {0xfdff, 0xddff},
		{0xfe00, 0xfe00}, {0xfe9f, 0xfe9f}, {0xff80, 0xff80}, {0xfffe, 0xfffe},
	}
	for _, c := range cases {
		m := plain(t, writeLines(c.addr, 0x5a)...)
		before := make([]uint8, 0xff00)
		for at := range before {
			before[at] = m.Peek(uint16(at))
		}
		run(m, bootCycles+10, api.Input{})
		for at, b := range before {
			if at == int(c.addr) || at == int(c.same) {
				b = 0x5a
			}
			wantPeek(t, m, uint16(at), b)
		}
		wantPeek(t, m, c.addr, 0x5a)
		wantPeek(t, m, c.same, 0x5a)
	}
	for _, addr := range []uint16{0, 0x100, 0x7fff, 0xa000, 0xbfff, 0xfea0, 0xfeff} {
		m := plain(t, writeLines(addr, 0x5a)...)
		before := m.Peek(addr)
		run(m, bootCycles+10, api.Input{})
		wantPeek(t, m, addr, before)
	}
}

// The cartridge's places: banks, and RAM that is opened (Words).
func TestCartridge(t *testing.T) {
	image := whole(t, 3, 2,
		"LD A,$0A", "LD ($0000),A", "LD A,$77", "LD ($A123),A", "LD A,($A123)", "LD B,A",
		"LD A,$00", "LD ($1FFF),A", "LD A,($A123)", "JR $FE")
	m := start(t, image)
	wantPeek(t, m, 0xa123, 255)
	until(t, m, "W A123=77")
	wantPeek(t, m, 0xa123, 0x77)
	until(t, m, "R A123=77")
	until(t, m, "R A123=FF")
	wantPeek(t, m, 0xa123, 255)
	if b := m.Save(); len(b) != 8192 || b[0x123] != 0x77 {
		t.Error("what the battery keeps")
	}

	big, e := header.Make("BANKS", 1, 1, 0, append([]byte{0x3e, 3, 0xea, 0, 0x20, 0x18, 0xfe}, make([]byte, 65536-336-7)...))
	if e != api.OK {
		t.Fatal(e)
	}
	for n := range 4 {
		big[16384*n+0x3000] = uint8(n) + 10
	}
	m = start(t, big)
	wantPeek(t, m, 0x7000, 11)
	until(t, m, "W 2000=03")
	wantPeek(t, m, 0x7000, 13)
	wantPeek(t, m, 0x3000, 10)
}

// What is held counts in its own cycle, and is held for Peek behind it (P24.2,
// Words).
func TestHeld(t *testing.T) {
	lines := []string{"LD A,$20", "LDH ($00),A", "LDH A,($00)", "LD B,A", "JR $FE"}
	const reads = bootCycles + 7
	for n := reads - 1; n <= reads+1; n++ {
		m := plain(t, lines...)
		for i := range reads + 2 {
			in := api.Input{}
			if i == n {
				in.Keys = 0xf9
			}
			e := m.Step(in)
			want, held := "R FF00=EF", uint8(0xef)
			if n == reads {
				want = "R FF00=E6"
			}
			if i == n {
				held = 0xe6
			}
			if i == reads && solo.Line(e.Act) != want {
				t.Errorf("%d: %s, want %s", n, solo.Line(e.Act), want)
			}
			if i > reads-2 {
				wantPeek(t, m, 0xff00, held)
			}
		}
	}
}

// A call: its acts, its marks, and when the interrupt is taken (P24.2, P24.3).
func TestCall(t *testing.T) {
	m := plain(t, "LD A,$01", "LDH ($FF),A", "EI", "NOP", "NOP")
	run(m, bootCycles, api.Input{})
	all := wantLines(t, m, "F 0150=3E", "R 0151=01", "F 0152=E0", "R 0153=FF", "W FFFF=01", "F 0154=FB", "F 0155=00",
		"-", "-", "W FFFD=01", "W FFFC=56", "-", "F 0040=00")
	marks := []int{1, 0, 1, 0, 0, 1, 1, 2, 0, 0, 0, 0, 1}
	asked := []uint8{1, 1, 1, 1, 1, 1, 1, 1, 1, 1, 0, 0, 0}
	for i, e := range all {
		if e.Mark != marks[i] || e.If != asked[i] {
			t.Errorf("cycle %d: %+v, want mark %d, If %d", i, e, marks[i], asked[i])
		}
	}
	wantPeek(t, m, 0xfffd, 1)
	wantPeek(t, m, 0xfffc, 0x56)
	if c := m.Cpu(); c.Ime || c.R.SP != 0xfffc || m.Ints() != (api.Ints{Ie: 1}) {
		t.Errorf("%+v, %+v", c, m.Ints())
	}
}

// The mark behind the prefix, behind a halt, and of a processor that stands
// (P24.3).
func TestMarks(t *testing.T) {
	m := plain(t, "SWAP A", "BIT 0,(HL)", "HALT")
	run(m, bootCycles, api.Input{})
	all := wantLines(t, m, "F 0150=CB", "F 0151=37", "F 0152=CB", "F 0153=46", "R 014D=A7", "F 0154=76", "-", "-")
	for i, want := range []int{1, 0, 1, 0, 0, 1, 0, 0} {
		if all[i].Mark != want {
			t.Errorf("cycle %d: mark %d, want %d", i, all[i].Mark, want)
		}
	}

	// Out of a halt: into a call with interrupts let in, else on behind it.
	for _, first := range []string{"EI", "DI"} {
		m = plain(t, first, "LD A,$10", "LDH ($FF),A", "HALT", "NOP")
		until(t, m, "F 0155=76")
		if e := m.Step(api.Input{Keys: 1}); e.Act.Kind != api.ActIdle || e.Mark != 0 || e.If != 17 {
			t.Errorf("%s: %+v", first, e)
		}
		want, line := api.MarkCall, "-"
		if first == "DI" {
			want, line = api.MarkFetch, "F 0156=00"
		}
		if e := m.Step(api.Input{Keys: 1}); e.Mark != want || solo.Line(e.Act) != line {
			t.Errorf("%s: %+v", first, e)
		}
	}
}

// A call whose pushes turn what is pending: they go through the bus ahead of
// what is taken next, and behind what was taken (P24.2).
func TestCallOverRegisters(t *testing.T) {
	// The high byte of PC, 01, is written to Ie: what was let in is no more.
	lines := []string{"LD A,$04", "LDH ($FF),A", "LD A,$04", "LDH ($0F),A", "LD SP,$0000", "EI", "NOP", "NOP"}
	m := plain(t, lines...)
	until(t, m, "F 015C=00")
	all := wantLines(t, m, "-", "-", "W FFFF=01", "W FFFE=5D", "-", "F 0000=00")
	if all[0].Mark != api.MarkCall || all[3].If != 4 || m.Ints() != (api.Ints{If: 4, Ie: 1}) {
		t.Errorf("%+v, %+v", all, m.Ints())
	}

	// Another one is let in by it, and is taken.
	lines[2] = "LD A,$05"
	m = plain(t, lines...)
	until(t, m, "F 015C=00")
	all = wantLines(t, m, "-", "-", "W FFFF=01", "W FFFE=5D", "-", "F 0040=00")
	if all[2].If != 5 || all[3].If != 4 {
		t.Errorf("%+v", all)
	}

	// The low byte is written to If: what was taken is asked for again.
	m = plain(t, "LD A,$01", "LDH ($FF),A", "LD SP,$FF11", "EI", "NOP", "NOP")
	until(t, m, "F 0158=00")
	all = wantLines(t, m, "-", "-", "W FF10=01", "W FF0F=59", "-", "F 0040=00")
	if all[2].If != 1 || all[3].If != 0x19 {
		t.Errorf("%+v", all)
	}
}

// What the processor writes to If is pending at the next beginning, and what
// the other parts ask for in a cycle comes into its entry, and is pending in
// the next one (P24.2).
func TestPendingNextCycle(t *testing.T) {
	m := plain(t, "XOR A", "LDH ($0F),A", "LD A,$10", "LDH ($FF),A", "EI", "NOP", "JR $FE")
	until(t, m, "F 0158=00")
	run(m, 3, api.Input{})
	if e := m.Step(api.Input{Keys: 16}); e.Mark != api.MarkFetch || e.If != 16 {
		t.Errorf("%+v", e)
	}
	e := run(m, 3, api.Input{Keys: 16})
	if e[0].Mark != 0 || e[1].Mark != 0 || e[2].Mark != api.MarkCall {
		t.Errorf("%+v", e)
	}
}

// While the processor is halted, stopped or locked, or works, the timer and the
// picture go on all the same (P24.5).
func TestStandsStill(t *testing.T) {
	for _, line := range []string{"HALT", "STOP $00", "DB $D3", "NOP"} {
		m := plain(t, "LD A,$05", "LDH ($07),A", "NOP", line, "JR $FE")
		n := bootCycles + 5 + 1 + 3
		run(m, n, api.Input{})
		for range 40000 {
			e := m.Step(api.Input{})
			n++
			dots := 4 * n % 70224
			div := 0xabcc + 4*n
			// Tac was written in cycle 9; from then on it counts whenever 16 of Div are full.
			tima := (div/16 - (0xabcc+4*9)/16) % 256
			if m.Peek(0xff04) != uint8(div/256) || m.Peek(0xff05) != uint8(tima) || int(m.Peek(0xff44)) != dots/456 {
				t.Fatalf("%s, cycle %d: Div %d, Tima %d (%d), line %d (%d)", line, n, m.Peek(0xff04), m.Peek(0xff05), tima, m.Peek(0xff44), dots/456)
			}
			if line != "NOP" && e.Act != (api.Act{}) {
				t.Fatalf("%s, cycle %d: %+v", line, n, e)
			}
		}
		if m.Frames() != 2 {
			t.Errorf("%s: %d frames", line, m.Frames())
		}
	}
}

// A stopped processor goes on with a key that is let in, a locked one with
// nothing (P24.2).
func TestWakes(t *testing.T) {
	m := plain(t, "LD A,$10", "LDH ($FF),A", "STOP $00", "LD B,$07")
	until(t, m, "R 0155=00")
	for _, e := range run(m, 300, api.Input{}) {
		if e.Act != (api.Act{}) {
			t.Fatalf("%+v", e)
		}
	}
	m.Step(api.Input{Keys: 8})
	wantLines(t, m, "F 0156=06", "R 0157=07")
	m = plain(t, "LD A,$1F", "LDH ($FF),A", "EI", "DB $D3")
	until(t, m, "F 0155=D3")
	for i := range 300 {
		if e := m.Step(api.Input{Keys: uint8(i)}); e.Act != (api.Act{}) || e.Mark != 0 {
			t.Fatalf("%+v", e)
		}
	}
}

// The timer: what is written counts in its own cycle, and its interrupt comes a
// cycle behind its overflow (P24.2).
func TestTimer(t *testing.T) {
	m := plain(t, "LD A,$FE", "LDH ($05),A", "LD A,$F0", "LDH ($06),A", "XOR A", "LDH ($0F),A", "LD A,$05", "LDH ($07),A", "JR $FE")
	until(t, m, "W FF07=05")
	// That was cycle 23: 24 cycles are over, and Div is ABCC and 96: AC2C.
	want := []struct{ tima, asked uint8 }{
		{0xff, 0}, {0xff, 0}, {0xff, 0}, {0xff, 0}, {0, 0}, {0xf0, 4}, {0xf0, 4}, {0xf0, 4}, {0xf1, 4},
	}
	for i, w := range want {
		e := m.Step(api.Input{})
		if e.If != w.asked || m.Peek(0xff05) != w.tima {
			t.Errorf("cycle %d: If %d, Tima %02X, want %d, %02X", i, e.If, m.Peek(0xff05), w.asked, w.tima)
		}
	}
	// Div is 0 by a write, and goes on in that cycle.
	m = plain(t, "LDH ($04),A", "JR $FE")
	until(t, m, "W FF04=01")
	run(m, 62, api.Input{})
	wantPeek(t, m, 0xff04, 0)
	m.Step(api.Input{})
	wantPeek(t, m, 0xff04, 1)
}

// The port with its own clock: a byte out and another one in, by the cycle
// (P24.2, P24.3).
func TestPort(t *testing.T) {
	m := plain(t, "LD A,$A5", "LDH ($01),A", "XOR A", "LDH ($0F),A", "LD A,$81", "LDH ($02),A", "JR $FE")
	for solo.Line(m.Step(api.Input{}).Act) != "R 015A=02" {
	}
	const comes = 0x36
	for i := range 1100 {
		n := min(i/128, 8)
		e := m.Step(api.Input{Bit: n < 8 && comes>>(7-n)%2 == 1, Clock: true})
		out := n < 8 && 0xa5>>(7-n)%2 == 1
		asked := uint8(0)
		if i >= 1023 {
			asked = 8
		}
		if n == 8 {
			out = comes >= 128
		}
		if e.Out != out || e.If != asked {
			t.Fatalf("cycle %d: out %v, If %d, want %v, %d", i, e.Out, e.If, out, asked)
		}
	}
	wantPeek(t, m, 0xff01, comes)
	wantPeek(t, m, 0xff02, 0x7f)
}

// The port with the other one's clock: only where it comes round (P24.2).
func TestPortOther(t *testing.T) {
	m := plain(t, "LD A,$C0", "LDH ($01),A", "XOR A", "LDH ($0F),A", "LD A,$80", "LDH ($02),A", "JR $FE")
	until(t, m, "W FF02=80")
	for i := range 8 {
		run(m, 20, api.Input{Bit: true})
		e := m.Step(api.Input{Bit: i%2 == 0, Clock: true})
		if e.Out != (i < 2) || e.If != uint8(i/7*8) {
			t.Errorf("bit %d: %+v", i, e)
		}
	}
	wantPeek(t, m, 0xff01, 0xaa)
	wantPeek(t, m, 0xff02, 0x7e)
	e := run(m, 5, api.Input{Clock: true})
	if !e[4].Out || m.Peek(0xff01) != 0xaa {
		t.Errorf("%+v", e)
	}
}

// The keys: asked for when one comes, by the rows that are asked (P24.2).
func TestKeys(t *testing.T) {
	m := plain(t, "LD A,$10", "LDH ($00),A", "XOR A", "LDH ($0F),A", "JR $FE")
	run(m, bootCycles+20, api.Input{})
	want := []struct{ keys, asked uint8 }{{0, 0}, {15, 0}, {16, 16}, {0, 16}, {16, 16}}
	for i, w := range want {
		if e := m.Step(api.Input{Keys: w.keys}); e.If != w.asked {
			t.Errorf("%d: If %d, want %d", i, e.If, w.asked)
		}
	}
	// A row that is asked from now on shows a key that was held ahead: the
	// write is seen in its own cycle.
	m = plain(t, "LD A,$30", "LDH ($00),A", "XOR A", "LDH ($0F),A", "LD A,$20", "LDH ($00),A", "JR $FE")
	for _, e := range run(m, bootCycles+20, api.Input{Keys: 2}) {
		if writes := solo.Line(e.Act) == "W FF00=20"; writes && e.If != 16 || !writes && e.Act.Addr == 0xff0f && e.Act.Kind == api.ActWrite && e.If != 0 {
			t.Errorf("%+v", e)
		}
	}
	if m.Ints().If != 16 {
		t.Errorf("%+v", m.Ints())
	}
}

// A second is over behind all else of its cycle, in cartridges with a clock
// (P24.2).
func TestTick(t *testing.T) {
	lines := []string{"XOR A", "LD ($6000),A", "LD A,$01", "LD ($6000),A", "JR $FE"}
	for _, kind := range []uint8{15, 16} {
		m := start(t, whole(t, kind, 2, lines...))
		for solo.Line(m.Step(api.Input{Tick: true}).Act) != "R 0158=60" {
		}
		ticks := uint8(bootCycles + 1 + 4 + 2 + 3)
		m.Step(api.Input{Tick: true}) // the write that holds the clock
		b := m.Save()
		b = b[len(b)-10:]
		if b[0] != ticks+1 || b[5] != ticks {
			t.Errorf("kind %d: %v, want %d", kind, b, ticks)
		}
		run(m, 100, api.Input{})
		if again := m.Save(); !slices.Equal(again[len(again)-10:], b) {
			t.Errorf("kind %d: %v", kind, again)
		}
	}
	m := start(t, whole(t, 19, 2, lines...))
	before := m.Save()
	run(m, 100, api.Input{Tick: true})
	if !slices.Equal(m.Save(), before) {
		t.Error("a cartridge without a clock ticks")
	}
}
