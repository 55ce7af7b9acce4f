package script

import (
	"fmt"
	"math/rand"
	"slices"
	"strings"
	"testing"

	"whirligig/api"
	"whirligig/header"
	"whirligig/listing"
	"whirligig/machine"
)

// stay is a line of a program that leads to itself.
const stay = "JR $FE"

// image is one of that kind whose program are these lines, from 0150 on; it
// has all its bytes, so that no place of it stands for another one.
func image(t testing.TB, kind uint8, program ...string) []byte {
	t.Helper()
	code, e := listing.All(program)
	if e != api.OK {
		t.Fatalf("All(%q): %d", program, e)
	}
	code = append(code, make([]byte, 32768-api.HeadSize-len(code))...)
	b, e := header.Make("TEST", kind, 0, 2, code)
	if e != api.OK {
		t.Fatalf("Make: %d", e)
	}
	return b
}

// wantPrinted holds what is printed against lines.
func wantPrinted(t *testing.T, b []byte, s string, want ...string) {
	t.Helper()
	if got, e := Run(b, s); !slices.Equal(got, want) || e != api.OK {
		t.Errorf("%.200q: error %d\n got %q\nwant %q", s, e, got, want)
	}
}

// The chapter's example, and the document's tenth (P25.3).
func TestExamples(t *testing.T) {
	b := image(t, 0, stay)
	wantPrinted(t, b, "run 4\ntrace on\nedge\nregs", "-", "AF=01B0 BC=0013 DE=00D8 HL=014D SP=FFFE PC=0150 IF=01 IE=00")
	wantPrinted(t, b, "trace on\nrun 5", "F 0100=00 *", "F 0101=C3 *", "R 0102=50", "R 0103=01", "-")
	wantFault(t, "run 0", 1, api.ErrText)
	if got := Text([]api.Order{{Kind: api.OrderPeek, N: 255}}); got != "peek 00FF\n" {
		t.Errorf("%q", got)
	}
}

// Errors, the image's ahead of the script's, and nothing beside them (P25.3, R1).
func TestRunErrors(t *testing.T) {
	good := image(t, 0, stay)
	kind, sum, size := slices.Clone(good), slices.Clone(good), slices.Clone(good)
	kind[327], sum[333], size[328] = 4, sum[333]+1, 9
	for _, c := range []struct {
		b []byte
		s string
		e api.Errno
	}{
		{nil, "", api.ErrShort},
		{nil, "none", api.ErrShort},
		{good[:335], "regs", api.ErrShort},
		{good[:335], "none", api.ErrShort},
		{kind, "none", api.ErrKind},
		{sum, "run 1000000\nrun 1000000", api.ErrSum},
		{size, "regs", api.ErrSize},
		{good, "none", api.ErrText},
		{good, "regs\nrun 5\nregs\nrun 0", api.ErrText},
		{good, "trace on\nrun 5\nrun 5 ", api.ErrText},
		{good, "run 1000000\nregs\nrun 48577", api.ErrSize},
		{good, "regs\nrun 1000000\nrun 48576\ntick", api.ErrSize},
		{good, "run 1000000\nrun 1000000\nnone", api.ErrText},
	} {
		if out, e := Run(c.b, c.s); len(out) != 0 || e != c.e {
			t.Errorf("%d bytes, %q: %d lines, %d, want %d", len(c.b), c.s, len(out), e, c.e)
		}
	}
}

// Scripts that ask for nothing (P25.3).
func TestPrintsNothing(t *testing.T) {
	b := image(t, 0, stay)
	for _, s := range []string{"", "\n", "# regs", "run 100", "keys FF\nbit 1\nedge\ntick", "trace on", "trace on\nkeys 01\nbit 0\ntrace off\nrun 100", "trace off\nrun 5"} {
		wantPrinted(t, b, s)
	}
}

// The trace prints each cycle while it is on: those of runs, edges and ticks
// (P25.3).
func TestTrace(t *testing.T) {
	b := image(t, 0, "LD A,$07", "LD ($C000),A", "BIT 7,A", stay)
	wantPrinted(t, b, "run 5\ntrace on\nrun 6\ntrace off\nrun 1\ntrace on\nedge\ntick\ntrace on\nrun 2\ntrace off\ntrace off\ntick\nedge\nrun 1\ntrace on\nrun 1",
		"F 0150=3E *", "R 0151=07", "F 0152=EA *", "R 0153=00", "R 0154=C0", "W C000=07", "F 0156=7F", "F 0157=18 *", "R 0158=FE", "-", "F 0157=18 *")
}

// A call's first cycle has a mark, and no other one of it (P25.3).
func TestTraceCall(t *testing.T) {
	b := image(t, 0, "LD A,$01", "LDH ($FF),A", "EI", "NOP", "NOP")
	wantPrinted(t, b, "run 10\ntrace on\nrun 8\nregs",
		"F 0154=FB *", "F 0155=00 *", "- !", "-", "W FFFD=01", "W FFFC=56", "-", "F 0040=00 *",
		"AF=01B0 BC=0013 DE=00D8 HL=014D SP=FFFC PC=0041 IF=00 IE=01")
}

// What is copied is told behind the act, and behind its mark (P25.3).
func TestTraceCopies(t *testing.T) {
	b := image(t, 0, "LD A,$01", "LDH ($FF),A", "LD A,$81", "LDH ($46),A", "EI", "NOP", "NOP")
	wantPrinted(t, b, "run 14\ntrace on\nrun 9",
		"W FF46=81", "F 0158=FB *", "F 0159=00 * <8100", "- ! <8101", "- <8102", "W FFFD=01 <8103", "W FFFC=5A <8104", "- <8105", "F 0040=00 * <8106")
	zero := image(t, 0, "XOR A", "LDH ($46),A", "NOP", "NOP", "NOP")
	wantPrinted(t, zero, "run 8\ntrace on\nrun 4", "W FF46=00", "F 0153=00 *", "F 0154=00 * <0000", "F 0155=00 * <0001")
	out, e := Run(b, "run 16\ntrace on\nrun 161")
	if e != api.OK || len(out) != 161 || !strings.HasSuffix(out[159], " <819F") || strings.Contains(out[160], "<") {
		t.Errorf("%d, %q", e, out)
	}
	for i, line := range out[:160] {
		if !strings.HasSuffix(line, fmt.Sprintf(" <%04X", 0x8100+i)) {
			t.Errorf("%d: %q", i, line)
		}
	}
}

// What is held goes on from its order on, in cycles of all kinds; it is 0 at
// first (P25.3).
func TestKeysOrder(t *testing.T) {
	b := image(t, 0, stay)
	wantPrinted(t, b, "run 1\npeek FF00\nkeys 01\npeek FF00\nrun 1\npeek FF00\nrun 5\npeek FF00\nkeys 80\npeek ff00\nedge\npeek FF00\nkeys 22\ntick\npeek FF00\ntick\nedge\nrun 1\npeek FF00\nkeys 00\nrun 1\npeek FF00\nregs",
		"FF00=CF", "FF00=CF", "FF00=CE", "FF00=CE", "FF00=CE", "FF00=C7", "FF00=CD", "FF00=CD", "FF00=CF",
		"AF=01B0 BC=0013 DE=00D8 HL=014D SP=FFFE PC=0152 IF=11 IE=00")
}

// The bit goes in with an edge, and an edge is one cycle's; it is false at
// first (P25.3).
func TestBitAndEdge(t *testing.T) {
	b := image(t, 0, "LD A,$80", "LDH ($02),A", stay)
	wantPrinted(t, b, "run 10\npeek FF02\nbit 1\nrun 1\npeek FF01\nedge\npeek FF01\nrun 9\npeek FF01\ntick\npeek FF01\nbit 0\nedge\npeek FF01\nbit 1\nedge\nedge\npeek FF01\npeek FF02\nbit 0\nedge\nedge\nedge\nbit 1\nedge\npeek FF01\npeek FF02\nedge\npeek FF01\nregs",
		"FF02=FE", "FF01=00", "FF01=01", "FF01=01", "FF01=01", "FF01=02", "FF01=0B", "FF02=FE", "FF01=B1", "FF02=7E", "FF01=B1",
		"AF=80B0 BC=0013 DE=00D8 HL=014D SP=FFFE PC=0156 IF=09 IE=00")
	own := image(t, 0, "LD A,$55", "LDH ($01),A", "LD A,$81", "LDH ($02),A", stay)
	for _, c := range []struct{ s, data string }{
		{"run 15\nrun 126\npeek FF01", "FF01=55"},
		{"run 15\nrun 127\npeek FF01", "FF01=AA"},
		{"bit 0\nrun 15\nrun 127\npeek FF01", "FF01=AA"},
		{"bit 1\nrun 15\nrun 127\npeek FF01", "FF01=AB"},
		{"run 15\nrun 126\nbit 1\nedge\npeek FF01", "FF01=AB"},
		{"run 15\nrun 126\nbit 1\ntick\npeek FF01", "FF01=AB"},
		{"run 15\nbit 1\nrun 126\nbit 0\nrun 1\npeek FF01", "FF01=AA"},
	} {
		wantPrinted(t, own, c.s, c.data)
	}
}

// A tick is a second, and one cycle's; Save's bytes are counted and summed
// (P25.3).
func TestTickAndSave(t *testing.T) {
	clock := image(t, 15, stay)
	wantPrinted(t, clock, "save\nrun 100\nsave\ntick\nsave\nedge\nrun 100\nsave\n"+strings.Repeat("tick\n", 58)+"save\ntick\nsave\ntick\nsave",
		"save 10 00", "save 10 00", "save 10 01", "save 10 01", "save 10 3B", "save 10 01", "save 10 02")
	wantPrinted(t, image(t, 16, stay), "tick\ntick\nsave", "save 8202 02")
	wantPrinted(t, image(t, 0, stay), "save\ntick\nsave", "save 0 00", "save 0 00")
	sum := image(t, 9, "LD A,$C8", "LD ($A000),A", "LD A,$64", "LD ($BFFF),A", stay)
	wantPrinted(t, sum, "save\nrun 11\nsave\nrun 6\nsave", "save 8192 00", "save 8192 C8", "save 8192 2C")
}

// A place is what the processor would read there (P25.3).
func TestPeekOrder(t *testing.T) {
	b := image(t, 0, "LD A,$9A", "LD ($C123),A", stay)
	wantPrinted(t, b, "peek c123\nrun 11\npeek c123\npeek E123\npeek 0151\npeek 0000\npeek FF40\npeek FF4C\npeek FFFF\npeek ff0f\npeek FEA0",
		"C123=00", "C123=9A", "E123=9A", "0151=9A", "0000=00", "FF40=91", "FF4C=FF", "FFFF=00", "FF0F=E1", "FEA0=FF")
}

// The registers are those between two cycles; If and Ie as they are (P25.3).
func TestRegsOrder(t *testing.T) {
	b := image(t, 0, "LD BC,$1234", "LD DE,$5678", "LD HL,$9ABC", "LD SP,$DEF0", "LD A,$FF", "LDH ($FF),A", "LDH ($0F),A", "XOR A", stay)
	wantPrinted(t, b, "regs\nregs\nrun 5\nregs\nrun 12\nregs\nrun 9\nregs",
		"AF=01B0 BC=0013 DE=00D8 HL=014D SP=FFFE PC=0100 IF=01 IE=00",
		"AF=01B0 BC=0013 DE=00D8 HL=014D SP=FFFE PC=0100 IF=01 IE=00",
		"AF=01B0 BC=0013 DE=00D8 HL=014D SP=FFFE PC=0150 IF=01 IE=00",
		"AF=01B0 BC=1234 DE=5678 HL=9ABC SP=DEF0 PC=015C IF=01 IE=00",
		"AF=0080 BC=1234 DE=5678 HL=9ABC SP=DEF0 PC=0163 IF=1F IE=FF")
}

// Frames are counted; of the first one on there are lines, those of the last
// one (P25.3).
func TestFrameAndLine(t *testing.T) {
	white, black := strings.Repeat("0", 160), strings.Repeat("3", 160)
	b := image(t, 0, stay)
	wantPrinted(t, b, "frame\nline 0\nline 143\nrun 16415\nframe\nline 7\nrun 1\nframe\nline 0\nline 143\nrun 17555\nframe\nrun 1\nframe",
		"frame 0", "line 0 none", "line 143 none", "frame 0", "line 7 none", "frame 1", "line 0 "+white, "line 143 "+white, "frame 1", "frame 2")
	// Bgp is written in the cycle 2066, with which dot 8264 is over: that is dot
	// 56 of line 18, which is drawn from its dot 80 on.
	b = image(t, 0, "LD HL,$0200", "DEC L", "JR NZ,$FD", "DEC H", "JR NZ,$FA", "LD A,$FF", "LDH ($47),A", "LD SP,$FFFE", "HALT")
	out, e := Run(b, "run 16416\nline 0\nline 10\nline 17\nline 18\nline 19\nline 143\nrun 17556\nframe\nline 0\nline 18\nline 143")
	want := []string{"line 0 " + white, "line 10 " + white, "line 17 " + white, "line 18 " + black, "line 19 " + black, "line 143 " + black, "frame 2", "line 0 " + black, "line 18 " + black, "line 143 " + black}
	if e != api.OK || !slices.Equal(out, want) {
		t.Errorf("%d\n got %q\nwant %q", e, out, want)
	}
	// While the picture is off no frame comes.
	b = image(t, 0, "XOR A", "LDH ($40),A", stay)
	wantPrinted(t, b, "run 100000\nframe\nline 0", "frame 0", "line 0 none")
}

// traced is what a cycle prints, after the chapter's words.
func traced(x api.Entry) string {
	line := "-"
	if x.Act.Kind != api.ActIdle {
		line = fmt.Sprintf("%c %04X=%02X", "-FRW"[x.Act.Kind], x.Act.Addr, x.Act.Data)
	}
	line += []string{"", " *", " !"}[x.Mark]
	if x.Dma {
		line += fmt.Sprintf(" <%04X", x.Src)
	}
	return line
}

// followed is what the orders print over a machine, after the chapter's words.
func followed(t *testing.T, b []byte, l []api.Order) []string {
	t.Helper()
	m, e := machine.New(b)
	if e != api.OK {
		t.Fatal(e)
	}
	var out []string
	var in api.Input
	trace := false
	step := func(clock, tick bool) {
		x := m.Step(api.Input{Keys: in.Keys, Bit: in.Bit, Clock: clock, Tick: tick})
		if trace {
			out = append(out, traced(x))
		}
	}
	for _, o := range l {
		switch o.Kind {
		case api.OrderRun:
			for range o.N {
				step(false, false)
			}
		case api.OrderKeys:
			in.Keys = uint8(o.N)
		case api.OrderBit:
			in.Bit = o.N == 1
		case api.OrderEdge:
			step(true, false)
		case api.OrderTick:
			step(false, true)
		case api.OrderTrace:
			trace = o.N == 1
		case api.OrderRegs:
			r, i := m.Cpu().R, m.Ints()
			out = append(out, fmt.Sprintf("AF=%02X%02X BC=%02X%02X DE=%02X%02X HL=%02X%02X SP=%04X PC=%04X IF=%02X IE=%02X", r.A, r.F, r.B, r.C, r.D, r.E, r.H, r.L, r.SP, r.PC, i.If, i.Ie))
		case api.OrderPeek:
			out = append(out, fmt.Sprintf("%04X=%02X", o.N, m.Peek(uint16(o.N))))
		case api.OrderFrame:
			out = append(out, fmt.Sprint("frame ", m.Frames()))
		case api.OrderLine:
			line := fmt.Sprintf("line %d none", o.N)
			if f := m.Frame(); len(f) > 0 {
				line = fmt.Sprintf("line %d %s", o.N, strings.Trim(strings.ReplaceAll(fmt.Sprint(f[160*o.N:160*o.N+160]), " ", ""), "[]"))
			}
			out = append(out, line)
		case api.OrderSave:
			save, sum := m.Save(), 0
			for _, v := range save {
				sum += int(v)
			}
			out = append(out, fmt.Sprintf("save %d %02X", len(save), sum%256))
		}
	}
	return out
}

// chanceImage is one of any kind whose program is bytes by chance, or one that
// turns the picture's registers and what the battery keeps.
func chanceImage(t *testing.T, r *rand.Rand) []byte {
	t.Helper()
	kind := []uint8{0, 3, 8, 9, 15, 16, 19, 27}[r.Intn(8)]
	b := image(t, kind,
		"LD A,$0A", "LD ($0000),A", "LD A,$1F", "LDH ($FF),A", "LD HL,$A000", "EI",
		"INC A", "LDH ($47),A", "LDH ($43),A", "LD (HL+),A", "LDH ($46),A", "LDH ($02),A", "NOP", "JR $F2")
	if r.Intn(3) == 0 {
		r.Read(b[api.HeadSize:])
	}
	b[0x40], b[0x48], b[0x50], b[0x58], b[0x60] = 0xd9, 0xd9, 0xd9, 0xd9, 0xd9 // RETI
	return b
}

// chanceOrders are a script's, at times long enough for frames.
func chanceOrders(r *rand.Rand) []api.Order {
	l := make([]api.Order, r.Intn(80))
	for i := range l {
		l[i] = chanceOrder(r)
		if l[i].Kind == api.OrderRun && r.Intn(10) == 0 {
			l[i].N = 1 + r.Intn(20000)
		}
	}
	return l
}

// asked are the orders that ask for a line.
func asked(l []api.Order) int {
	n := 0
	for _, o := range l {
		if o.Kind >= api.OrderRegs {
			n++
		}
	}
	return n
}

// Scripts by chance print what the chapter's words say, with comments and
// without, each time again; so many lines as are asked for and traced; and the
// image stays (P25.3, P25.4, R3, R4).
func TestRunByChance(t *testing.T) {
	r := rand.New(rand.NewSource(2525))
	for range 150 {
		b, l := chanceImage(t, r), chanceOrders(r)
		kept := slices.Clone(b)
		want, text := followed(t, b, l), Text(l)
		wantPrinted(t, b, text, want...)
		wantPrinted(t, b, "# so\n\n"+strings.ReplaceAll(text, "\n", "\n\n# so\n"), want...)
		if !slices.Equal(b, kept) {
			t.Fatal("the image was changed")
		}
		untraced := slices.DeleteFunc(slices.Clone(l), func(o api.Order) bool { return o.Kind == api.OrderTrace })
		if out, _ := Run(b, Text(untraced)); len(out) != asked(l) {
			t.Errorf("%d lines, want %d", len(out), asked(l))
		}
		if out, _ := Run(b, "trace on\n"+Text(untraced)); len(out) != asked(l)+Cycles(l) {
			t.Errorf("%d lines, want %d and %d", len(out), asked(l), Cycles(l))
		}
	}
}

// The most cycles that a script may have, all of them traced (P25.3, P25.4).
func TestMostCycles(t *testing.T) {
	b := image(t, 0, stay)
	out, e := Run(b, "trace on\nrun 1000000\nrun 48575\ntick\nframe")
	if e != api.OK || len(out) != api.MaxSteps+1 || out[0] != "F 0100=00 *" || out[api.MaxSteps] != "frame 59" {
		t.Errorf("%d, %d lines", e, len(out))
	}
}
