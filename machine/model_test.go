package machine

import (
	"math/rand"
	"reflect"
	"slices"
	"testing"

	"whirligig/api"
	"whirligig/bus"
	"whirligig/cart"
	"whirligig/cpu"
	"whirligig/dma"
	"whirligig/header"
	"whirligig/irq"
	"whirligig/lcd"
	"whirligig/objects"
	"whirligig/pad"
	"whirligig/scan"
	"whirligig/serial"
	"whirligig/timer"
)

// The model is the chapter's words, one behind the other: its memories are
// plain places, its registers stand by their places, each dot asks for its
// objects anew, and all that it tells is made when it is asked for.

// model is a machine of the model's.
type model struct {
	cart   *cart.Cart
	mem    map[uint16]uint8
	reg    map[uint16]uint8 // the picture's, by their places
	c      api.Cpu
	i      api.Ints
	t      api.Timer
	s      api.Serial
	p      api.Pad
	l      api.Lcd
	d      api.Dma
	keys   uint8
	lines  map[int]api.Video
	frames [][]uint8
	met    int // how often the processor and the transfer met
	away   int // how often it was kept away else
}

// newModel is P24.1.
func newModel(t testing.TB, image []byte) *model {
	t.Helper()
	c, e := cart.New(image)
	if e != api.OK {
		t.Fatal(e)
	}
	return &model{
		cart:  c,
		mem:   map[uint16]uint8{},
		reg:   map[uint16]uint8{0xff40: 145, 0xff42: 0, 0xff43: 0, 0xff47: 252, 0xff48: 0, 0xff49: 0, 0xff4a: 0, 0xff4b: 0},
		c:     cpu.Boot(),
		i:     api.Ints{If: 1},
		t:     api.Timer{Div: 43980},
		p:     api.Pad{Last: 15},
		l:     api.Lcd{On: true},
		lines: map[int]api.Video{},
	}
}

// own is the first place of a byte of the machine's own memories.
func own(addr uint16) (uint16, bool) {
	switch {
	case addr >= 0x8000 && addr <= 0x9fff, addr >= 0xc000 && addr <= 0xdfff:
		return addr, true
	case addr >= 0xe000 && addr <= 0xfdff:
		return addr - 0x2000, true
	case addr >= 0xfe00 && addr <= 0xfe9f, addr >= 0xff80 && addr <= 0xfffe:
		return addr, true
	}
	return 0, false
}

// ofCart tells whether a place is the cartridge's.
func ofCart(addr uint16) bool {
	return addr <= 0x7fff || addr >= 0xa000 && addr <= 0xbfff
}

// read is a place as the Words say.
func (m *model) read(addr uint16) uint8 {
	if ofCart(addr) {
		return m.cart.Read(addr)
	}
	if at, ok := own(addr); ok {
		return m.mem[at]
	}
	if v, ok := m.reg[addr]; ok {
		return v
	}
	switch addr {
	case 0xff00:
		return pad.Read(m.p, m.keys)
	case 0xff01, 0xff02:
		return serial.Read(m.s, addr)
	case 0xff04, 0xff05, 0xff06, 0xff07:
		return timer.Read(m.t, addr)
	case 0xff0f, 0xffff:
		return irq.Read(m.i, addr)
	case 0xff41, 0xff44, 0xff45:
		return lcd.Read(m.l, addr)
	case 0xff46:
		return dma.Read(m.d)
	}
	return 255
}

// write is a place as the Words say.
func (m *model) write(addr uint16, v uint8) {
	if ofCart(addr) {
		m.cart.Write(addr, v)
	}
	if at, ok := own(addr); ok {
		m.mem[at] = v
	}
	if _, ok := m.reg[addr]; ok {
		m.reg[addr] = v
	}
	rises := false
	switch addr {
	case 0xff00:
		m.p = pad.Write(m.p, v)
	case 0xff01, 0xff02:
		m.s = serial.Write(m.s, addr, v)
	case 0xff04, 0xff05, 0xff06, 0xff07:
		m.t = timer.Write(m.t, addr, v)
	case 0xff0f, 0xffff:
		m.i = irq.Write(m.i, addr, v)
	case 0xff40:
		m.l, rises = lcd.Power(m.l, v >= 128)
		if v < 128 {
			clear(m.lines)
		}
	case 0xff41, 0xff45:
		m.l, rises = lcd.Write(m.l, addr, v)
	case 0xff46:
		m.d = dma.Write(m.d, v)
	}
	if rises {
		m.i = irq.Ask(m.i, api.IntLcd)
	}
}

// run are the bytes of the machine's own from a place on.
func (m *model) run(from uint16, n int) []byte {
	b := make([]byte, n)
	for k := range b {
		b[k] = m.mem[from+uint16(k)]
	}
	return b
}

// record is what a line is drawn from.
func (m *model) record() api.Video {
	return api.Video{
		Ctl: m.reg[0xff40], Scy: m.reg[0xff42], Scx: m.reg[0xff43], Wy: m.reg[0xff4a], Wx: m.reg[0xff4b],
		Bgp: m.reg[0xff47], Obp0: m.reg[0xff48], Obp1: m.reg[0xff49],
		Vram: m.run(0x8000, 8192), Oam: m.run(0xfe00, 160),
	}
}

// dot is a dot of the picture.
func (m *model) dot() {
	var on []api.Obj
	if m.reg[0xff40]&2 != 0 {
		on = objects.Scan(m.run(0xfe00, 160), int(m.l.Line), m.reg[0xff40]&4 != 0)
	}
	var e api.Event
	m.l, e = lcd.Step(m.l, uint16(objects.Extra(on, m.reg[0xff43])))
	if e.Draw {
		m.lines[int(m.l.Line)] = m.record()
	}
	if e.Frame {
		m.i.If |= 1
		var all []api.Video
		for y := range 144 {
			all = append(all, m.lines[y])
		}
		m.frames = append(m.frames, scan.Frame(all))
	}
	if e.Lcd {
		m.i.If |= 2
	}
}

// act does what the processor wants; the byte that was read is told.
func (m *model) act(a *api.Act, copies bool, from uint16, data uint8) uint8 {
	if a.Kind == api.ActIdle {
		return 0
	}
	vram, oam := lcd.Locks(m.l)
	meets := bus.Meets(a.Addr, from, copies)
	shut := bus.Shut(a.Addr, vram, oam, copies)
	if meets {
		m.met++
	} else if shut {
		m.away++
	}
	if a.Kind == api.ActWrite {
		if !meets && !shut {
			m.write(a.Addr, a.Data)
		}
		return 0
	}
	switch {
	case meets:
		a.Data = data
	case shut:
		a.Data = 255
	default:
		a.Data = m.read(a.Addr)
	}
	return a.Data
}

// mark is P24.3's, by what the processor was ahead of the cycle, and is behind
// its Want.
func mark(before, wanted api.Cpu, a api.Act) int {
	begins := !cpu.Busy(before)
	switch {
	case begins && wanted.Mode == api.ModeCall:
		return api.MarkCall
	case begins && a.Kind == api.ActFetch:
		return api.MarkFetch
	}
	return api.MarkNone
}

// step is P24.2 and P24.3.
func (m *model) step(in api.Input) api.Entry {
	m.keys = in.Keys
	before := m.c
	wanted, act, taken := cpu.Want(m.c, irq.Pending(m.i))
	if taken >= 0 {
		m.i = irq.Take(m.i, taken)
	}
	_, from, to, copies := dma.Step(m.d)
	data := m.read(from)
	read := m.act(&act, copies, from, data)
	m.c = cpu.Done(wanted, read, irq.Pending(m.i))
	if copies {
		m.mem[0xfe00+uint16(to)] = data
	}
	m.d, _, _, _ = dma.Step(m.d)
	var asks, out bool
	if m.t, asks = timer.Step(m.t); asks {
		m.i.If |= 4
	}
	if m.s, out, asks = serial.Step(m.s, in.Bit, in.Clock); asks {
		m.i.If |= 8
	}
	for k := 0; k < 4; k++ {
		m.dot()
	}
	if m.p, asks = pad.Step(m.p, in.Keys); asks {
		m.i.If |= 16
	}
	if in.Tick {
		m.cart.Tick()
	}
	return api.Entry{Act: act, Dma: copies, Src: from, If: m.i.If, Mark: mark(before, wanted, act), Out: out}
}

// hold holds all that a machine tells against the model.
func (m *model) hold(t *testing.T, g *Machine) {
	t.Helper()
	if g.Cpu() != m.c || g.Ints() != m.i {
		t.Fatalf("\n got %+v %+v\nwant %+v %+v", g.Cpu(), g.Ints(), m.c, m.i)
	}
	for addr := range 65536 {
		if got, want := g.Peek(uint16(addr)), m.read(uint16(addr)); got != want {
			t.Fatalf("Peek(%04X): %d, want %d", addr, got, want)
		}
	}
	var last []uint8
	if n := len(m.frames); n > 0 {
		last = m.frames[n-1]
	}
	if g.Frames() != len(m.frames) || !slices.Equal(g.Frame(), last) {
		t.Fatalf("%d frames, want %d, or another last one", g.Frames(), len(m.frames))
	}
	for y := -1; y <= 144; y++ {
		got, ok := g.Record(y)
		want, there := m.lines[y]
		if ok != there || !reflect.DeepEqual(got, want) {
			t.Fatalf("Record(%d): %v, want %v, or another one", y, ok, there)
		}
	}
	if !slices.Equal(g.Save(), m.cart.Save()) {
		t.Fatal("Save")
	}
}

// chancePlace is a place that programs ask, more often one of the registers'.
func chancePlace(r *rand.Rand) uint16 {
	switch r.Intn(8) {
	case 0:
		return uint16(0x8000 + r.Intn(0x2000))
	case 1:
		return uint16(0xa000 + r.Intn(0x2000))
	case 2:
		return uint16(0xc000 + r.Intn(0x3e00))
	case 3:
		return uint16(0xfe00 + r.Intn(0x100))
	case 4:
		return uint16(r.Intn(0x8000))
	case 5:
		return uint16(r.Intn(65536))
	}
	return uint16(0xff00 + r.Intn(0x50))
}

// chanceByte is a byte for a register: some would end most of what is to be
// seen, and are rare.
func chanceByte(r *rand.Rand, reg uint8) uint8 {
	v := uint8(r.Intn(256))
	switch reg {
	case 0x40:
		if r.Intn(16) != 0 {
			v |= 128
		}
	case 0x46:
		if r.Intn(3) != 0 {
			v = 0x80 + v%0x20
		}
	case 0x45:
		v %= 160
	}
	return v
}

// chanceCode is a few instructions of a program that asks much of the bus.
func chanceCode(r *rand.Rand) []byte {
	at := chancePlace(r)
	lo, hi := uint8(at), uint8(at>>8)
	regs := []uint8{0, 1, 2, 4, 5, 6, 7, 0x0f, 0x40, 0x41, 0x42, 0x43, 0x44, 0x45, 0x46, 0x47, 0x48, 0x49, 0x4a, 0x4b, 0xff}
	reg := regs[r.Intn(len(regs))]
	switch r.Intn(12) {
	case 0, 1, 2:
		return []byte{0x3e, chanceByte(r, reg), 0xe0, reg}
	case 3:
		return []byte{0xf0, reg}
	case 4:
		return []byte{0x3e, uint8(r.Intn(256)), 0xea, lo, hi}
	case 5:
		return []byte{0xfa, lo, hi}
	case 6:
		return []byte{0x21, lo, hi, uint8(0x70 + r.Intn(6)), 0x7e, 0xcb, uint8(r.Intn(32))*8 + 6}
	case 7:
		return []byte{0xcb, uint8(r.Intn(256)), uint8(0x80 + r.Intn(64))}
	case 8:
		return []byte{0xfb, 0, uint8(0x40 + r.Intn(48))}
	case 9:
		return []byte{0xc5, 0xd1, 0x18, uint8(r.Intn(4))}
	case 10:
		return []byte{0x2a, 0x22, 0x34, 0x35, 0x32}[r.Intn(4):]
	}
	return [][]byte{{0x76}, {0xf3}, {0xfb, 0x76}, {0x31, 0xfe, 0xff}, {uint8(r.Intn(256))}, {0x3e, 0x0a, 0xea, 0, 0}}[r.Intn(6)]
}

// chanceImage is an image with a program by chance; plain ones are any bytes.
func chanceImage(t testing.TB, r *rand.Rand, plain bool) []byte {
	t.Helper()
	kind := []uint8{0, 3, 16, 19, 27}[r.Intn(5)]
	code := make([]byte, 0, 32768)
	for len(code) < 32768-api.HeadSize-8 {
		if plain {
			code = append(code, uint8(r.Intn(256)))
		} else {
			code = append(code, chanceCode(r)...)
		}
	}
	image, e := header.Make("CHANCE", kind, 1, uint8(r.Intn(4)), code)
	if e != api.OK {
		t.Fatal(e)
	}
	for at := range 256 {
		image[at] = [4]byte{0, 0, 0xc9, 0xd9}[r.Intn(4)] // a restart and a call mostly lead back
	}
	return image
}

// chanceInput is what comes from outside; what is held stays for a while.
func chanceInput(r *rand.Rand, last api.Input) api.Input {
	if r.Intn(40) == 0 {
		last.Keys = uint8(r.Intn(256)) & uint8(r.Intn(256))
	}
	last.Bit = r.Intn(2) == 0
	last.Clock = r.Intn(5) == 0
	last.Tick = r.Intn(300) == 0
	return last
}

// seen counts what came up, so that a test by chance shows that it asked much.
type seen struct {
	calls, copies, met, away, frames int
	asked                            [5]int
}

// count takes up an entry.
func (s *seen) count(before uint8, e api.Entry) {
	if e.Mark == api.MarkCall {
		s.calls++
	}
	if e.Dma {
		s.copies++
	}
	for n := range s.asked {
		if e.If>>n%2 == 1 && before>>n%2 == 0 {
			s.asked[n]++
		}
	}
}

// follow runs a machine and the model side by side.
func follow(t *testing.T, r *rand.Rand, image []byte, cycles int, s *seen) {
	t.Helper()
	g, e := New(image)
	if e != api.OK {
		t.Fatal(e)
	}
	m := newModel(t, image)
	var in api.Input
	for n := range cycles {
		in = chanceInput(r, in)
		before := m.i.If
		got, want := g.Step(in), m.step(in)
		if got != want || g.Cpu() != m.c {
			t.Fatalf("cycle %d, %+v:\n got %+v\nwant %+v\n got %+v\nwant %+v", n, in, got, want, g.Cpu(), m.c)
		}
		s.count(before, got)
		if n%9973 == 0 {
			m.hold(t, g)
		}
	}
	m.hold(t, g)
	s.met, s.away, s.frames = s.met+m.met, s.away+m.away, s.frames+len(m.frames)
}

// Programs and inputs by chance, against the model, entry by entry (P24.1 to
// P24.4).
func TestByChance(t *testing.T) {
	r := rand.New(rand.NewSource(24))
	var s seen
	for n := range 150 {
		follow(t, r, chanceImage(t, r, n%6 == 5), 6000, &s)
	}
	for range 8 {
		follow(t, r, chanceImage(t, r, false), 40000, &s)
	}
	few := slices.Min(s.asked[:]) < 10
	if few || s.calls < 100 || s.copies < 5000 || s.met < 500 || s.away < 500 || s.frames < 8 {
		t.Errorf("too little came up: %+v", s)
	}
}
