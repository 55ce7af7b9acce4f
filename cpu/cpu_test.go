package cpu

import (
	"math/rand"
	"testing"

	"whirligig/api"
	"whirligig/micro"
	"whirligig/opcode"
)

// The model is written after the chapters' words, with numbers of its own: an
// opcode's bits are taken apart here, and what is reckoned is reckoned in whole
// numbers, so that of the layers below only the plans of the cycles are asked,
// and those alone where a processor stands amid an instruction.

// model is a processor of the model's.
type model struct {
	api.Cpu
	pending uint8
}

// get is a register, or Lo in the stead of the byte at HL.
func (m *model) get(n int) int {
	return int(*[8]*uint8{&m.R.B, &m.R.C, &m.R.D, &m.R.E, &m.R.H, &m.R.L, &m.Lo, &m.R.A}[n])
}

// set lays a register, and nothing in the stead of the byte at HL.
func (m *model) set(n, v int) {
	if n != 6 {
		*[8]*uint8{&m.R.B, &m.R.C, &m.R.D, &m.R.E, &m.R.H, &m.R.L, nil, &m.R.A}[n] = uint8(v)
	}
}

// pair is BC, DE, HL, SP, AF.
func (m *model) pair(n int) int {
	r := m.R
	return [5]int{
		int(r.B)*256 + int(r.C), int(r.D)*256 + int(r.E), int(r.H)*256 + int(r.L),
		int(r.SP), int(r.A)*256 + int(r.F),
	}[n]
}

// setPair lays one.
func (m *model) setPair(n, w int) {
	w = (w + 65536) % 65536
	hi, lo := uint8(w/256), uint8(w%256)
	switch n {
	case 0:
		m.R.B, m.R.C = hi, lo
	case 1:
		m.R.D, m.R.E = hi, lo
	case 2:
		m.R.H, m.R.L = hi, lo
	case 3:
		m.R.SP = uint16(w)
	case 4:
		m.R.A, m.R.F = hi, lo/16*16
	}
}

// word is that of Hi and Lo.
func (m *model) word() int {
	return int(m.Hi)*256 + int(m.Lo)
}

// signed is Lo as a signed byte.
func (m *model) signed() int {
	return int(int8(m.Lo))
}

// flags are Z, N, H, C.
func (m *model) flags() (z, n, h, c bool) {
	f := m.R.F
	return f >= 128, f%128 >= 64, f%64 >= 32, f%32 >= 16
}

// setFlags lays them.
func (m *model) setFlags(z, n, h, c bool) {
	m.R.F = 0
	for i, on := range [4]bool{c, h, n, z} {
		if on {
			m.R.F += 16 << i
		}
	}
}

// carry is what C is worth.
func (m *model) carry() int {
	return int(m.R.F) / 16 % 2
}

// holds asks a condition.
func (m *model) holds(cond int) bool {
	z, _, _, c := m.flags()
	return [4]bool{!z, z, !c, c}[cond]
}

// alu is one of the eight operations.
func (m *model) alu(op, v int) {
	a, c := int(m.R.A), 0
	if op == 1 || op == 3 {
		c = m.carry()
	}
	switch op {
	case 0, 1:
		sum := a + v + c
		m.R.A = uint8(sum % 256)
		m.setFlags(sum%256 == 0, false, a%16+v%16+c > 15, sum > 255)
	case 2, 3, 7:
		less := a - v - c
		m.setFlags((less+512)%256 == 0, true, a%16 < v%16+c, less < 0)
		if op != 7 {
			m.R.A = uint8((less + 512) % 256)
		}
	default:
		m.R.A = [7]uint8{4: uint8(a) & uint8(v), 5: uint8(a) ^ uint8(v), 6: uint8(a) | uint8(v)}[op]
		m.setFlags(m.R.A == 0, false, op == 4, false)
	}
}

// shifted is a byte behind one of the eight shifts, and what went out.
func (m *model) shifted(op, v int) (int, bool) {
	up, down := v*2%256, v/2
	switch op {
	case 0:
		return up + v/128, v >= 128
	case 1:
		return down + v%2*128, v%2 == 1
	case 2:
		return up + m.carry(), v >= 128
	case 3:
		return down + m.carry()*128, v%2 == 1
	case 4:
		return up, v >= 128
	case 5:
		return down + v/128*128, v%2 == 1
	case 6:
		return v%16*16 + v/16, false
	}
	return down, v%2 == 1
}

// changed is what an operation on one byte comes to; the flags are told beside.
func (m *model) changed(op uint8, cb bool, v int) (out int, z, n, h, c bool) {
	z, n, h, c = m.flags()
	y := int(op) / 8 % 8
	switch {
	case !cb && op%8 == 4:
		out = (v + 1) % 256
		z, n, h = out == 0, false, v%16 == 15
	case !cb && op%8 == 5:
		out = (v + 255) % 256
		z, n, h = out == 0, true, v%16 == 0
	case op < 64:
		out, c = m.shifted(y, v)
		z, n, h = out == 0, false, false
	case op < 128:
		out = v
		z, n, h = v>>y%2 == 0, false, true
	case op < 192:
		out = v
		if v>>y%2 == 1 {
			out -= 1 << y
		}
	default:
		out = v
		if v>>y%2 == 0 {
			out += 1 << y
		}
	}
	return out, z, n, h, c
}

// change ends INC, DEC, and all behind the prefix.
func (m *model) change(op uint8, cb bool) {
	n := int(op) % 8
	if !cb {
		n = int(op) / 8 % 8
	}
	out, z, s, h, c := m.changed(op, cb, m.get(n))
	m.set(n, out)
	if !cb || op < 128 {
		m.setFlags(z, s, h, c)
	}
}

// daa makes A decimal again.
func (m *model) daa() {
	_, n, h, c := m.flags()
	a, d := int(m.R.A), 0
	if c || !n && a > 153 {
		d += 96
	}
	if h || !n && a%16 > 9 {
		d += 6
	}
	if n {
		a -= d
	} else {
		a, c = a+d, d >= 96
	}
	m.R.A = uint8((a + 256) % 256)
	m.setFlags(m.R.A == 0, n, false, c)
}

// spAndByte is SP and a signed byte, with its flags.
func (m *model) spAndByte() int {
	sp, e := int(m.R.SP), int(m.Lo)
	m.setFlags(false, false, sp%16+e%16 > 15, sp%256+e > 255)
	return sp + m.signed()
}

// addHL adds a pair to HL.
func (m *model) addHL(n int) {
	z, _, _, _ := m.flags()
	a, b := m.pair(2), m.pair(n)
	m.setPair(2, (a+b)%65536)
	m.setFlags(z, false, a%4096+b%4096 > 4095, a+b > 65535)
}

// jump lays PC.
func (m *model) jump(to int) {
	m.R.PC = uint16((to + 65536) % 65536)
}

// jumpIf lays it, if the condition holds.
func (m *model) jumpIf(holds bool, to int) {
	if holds {
		m.jump(to)
	}
}

// ends is P22.5: what the instruction of Op, Cb comes to.
func (m *model) ends() {
	op, cb := m.Op, m.Cb
	m.Step, m.Cb = 0, false
	if cb {
		m.change(op, true)
		return
	}
	y, z := int(op)/8%8, int(op)%8
	switch op / 64 {
	case 0:
		m.endsFirst(op, y, z)
	case 1:
		switch {
		case op != 0x76:
			m.set(y, m.get(z))
		case !m.Ime && m.pending%32 != 0:
			m.Bug = true
		default:
			m.Mode = 1
		}
	case 2:
		m.alu(y, m.get(z))
	case 3:
		m.endsLast(op, y, z)
	}
}

// endsFirst ends the opcodes below 64.
func (m *model) endsFirst(op uint8, y, z int) {
	p, odd := y/2, y%2 == 1
	zero, _, _, c := m.flags()
	switch {
	case op == 0x10:
		m.Mode = 2
	case op == 0x18, z == 0 && y >= 4:
		m.jumpIf(op == 0x18 || m.holds(y%4), int(m.R.PC)+m.signed())
	case z == 1 && !odd:
		m.setPair(p, m.word())
	case z == 1:
		m.addHL(p)
	case z == 2 && odd:
		m.R.A = m.Lo
	case z == 3 && !odd:
		m.setPair(p, m.pair(p)+1)
	case z == 3:
		m.setPair(p, m.pair(p)-1)
	case z == 4, z == 5:
		m.change(op, false)
	case z == 6:
		m.set(y, int(m.Lo))
	case z == 7 && y < 4:
		a, out := m.shifted(y, int(m.R.A))
		m.R.A = uint8(a)
		m.setFlags(false, false, false, out)
	case op == 0x27:
		m.daa()
	case op == 0x2f:
		m.R.A = 255 - m.R.A
		m.setFlags(zero, true, true, c)
	case op == 0x37:
		m.setFlags(zero, false, false, true)
	case op == 0x3f:
		m.setFlags(zero, false, false, !c)
	}
}

// illegal tells the eleven opcodes that lock.
func illegal(op uint8) bool {
	switch op {
	case 0xd3, 0xdb, 0xdd, 0xe3, 0xe4, 0xeb, 0xec, 0xed, 0xf4, 0xfc, 0xfd:
		return true
	}
	return false
}

// endsLast ends the opcodes from 192 on.
func (m *model) endsLast(op uint8, y, z int) {
	conditional := y < 4 && (z == 0 || z == 2 || z == 4)
	switch {
	case illegal(op):
		m.Mode = 3
	case conditional:
		m.jumpIf(m.holds(y), m.word())
	case op == 0xc3, op == 0xc9, op == 0xcd:
		m.jump(m.word())
	case op == 0xd9:
		m.jump(m.word())
		m.Ime = true
	case op == 0xe9:
		m.jump(m.pair(2))
	case op == 0xe8:
		m.setPair(3, m.spAndByte())
	case op == 0xf8:
		m.setPair(2, m.spAndByte())
	case op == 0xf9:
		m.setPair(3, m.pair(2))
	case op == 0xf0, op == 0xf2, op == 0xfa:
		m.R.A = m.Lo
	case op == 0xf3:
		m.Ime, m.Arm = false, false
	case op == 0xfb:
		m.Arm = true
	case z == 1 && y%2 == 0:
		m.setPair([4]int{0, 1, 2, 4}[y/2], m.word())
	case z == 6:
		m.alu(y, int(m.Lo))
	case z == 7:
		m.jump(8 * y)
	}
}

// cycles are the plan of the instruction, ahead of which stand its fetches.
func (m *model) cycles() (fetches int, plan []api.Micro) {
	if !m.Cb && m.Op == 203 {
		return 2, nil
	}
	y := m.Op / 8 % 8
	cond := int(y % 4)
	plan = micro.Plan(m.Op, m.Cb, m.holds(cond))
	if m.Cb {
		return 2, plan
	}
	return 1, plan
}

// stands tells whether it is halted, stopped or locked.
func (m *model) stands() bool {
	return m.Mode >= 1 && m.Mode <= 3
}

// goesOn tells whether an instruction does.
func (m *model) goesOn() bool {
	fetches, plan := m.cycles()
	return (m.Mode == 0 || m.Mode > 4) && m.Step > 0 && int(m.Step) < fetches+len(plan)
}

// busy is P22.1.
func (m *model) busy() bool {
	return m.goesOn() || m.Mode == 4 && m.Step >= 1 && m.Step <= 4
}

// now is the cycle of an instruction that goes on; again: it is a fetch.
func (m *model) now() (now api.Micro, again bool) {
	fetches, plan := m.cycles()
	if int(m.Step) < fetches {
		return api.Micro{}, true
	}
	return plan[int(m.Step)-fetches], false
}

// place is P22.3's.
func (m *model) place(at int) uint16 {
	hl := m.pair(2)
	return uint16(map[int]int{
		api.AtPC: int(m.R.PC), api.AtHL: hl, api.AtUp: hl, api.AtDown: hl,
		api.AtBC: m.pair(0), api.AtDE: m.pair(1),
		api.AtHigh: 0xff00 + int(m.Lo), api.AtPort: 0xff00 + int(m.R.C),
		api.AtFar: m.word(), api.AtNext: (m.word() + 1) % 65536,
		api.AtPush: (int(m.R.SP) + 65535) % 65536, api.AtPop: int(m.R.SP),
	}[at])
}

// value is P22.3's: what is written.
func (m *model) value(of int) uint8 {
	y, p := int(m.Op)%8, int(m.Op)/16%4
	if p == 3 {
		p = 4 // only what is pushed names a pair here
	}
	done := 0
	if of == api.ValDone {
		done, _, _, _, _ = m.changed(m.Op, m.Cb, int(m.Lo))
	}
	return uint8(map[int]int{
		api.ValLo: int(m.Lo), api.ValA: int(m.R.A), api.ValReg: m.get(y),
		api.ValSPLo: int(m.R.SP) % 256, api.ValSPHi: int(m.R.SP) / 256,
		api.ValPCLo: int(m.R.PC) % 256, api.ValPCHi: int(m.R.PC) / 256,
		api.ValTop: m.pair(p) / 256, api.ValLow: m.pair(p) % 256,
		api.ValDone: done,
	}[of])
}

// want is P22.2.
func (m *model) want() (api.Act, int) {
	asked := m.pending % 32
	switch {
	case m.Mode == 3, m.Mode == 2 && asked < 16, m.Mode == 1 && asked == 0:
		return api.Act{}, -1
	case m.Mode == 4 && m.busy():
		return m.wantCall(int(asked))
	case m.goesOn():
		return m.wantOn(), -1
	}
	m.Step, m.Mode = 0, 0
	if m.Ime && asked != 0 {
		m.Mode = 4
		return api.Act{}, -1
	}
	if m.Arm {
		m.Ime, m.Arm = true, false
	}
	return api.Act{Kind: 1, Addr: m.R.PC}, -1
}

// wantCall is a call's cycle.
func (m *model) wantCall(asked int) (api.Act, int) {
	below := m.place(api.AtPush)
	switch m.Step {
	case 2:
		return api.Act{Kind: 3, Addr: below, Data: uint8(m.R.PC / 256)}, -1
	case 3:
		act := api.Act{Kind: 3, Addr: below, Data: uint8(m.R.PC % 256)}
		for n := 0; n < 5; n++ {
			if asked>>n%2 == 1 {
				m.Lo = uint8(n)
				return act, n
			}
		}
		m.Lo = 5
		return act, -1
	}
	return api.Act{}, -1
}

// wantOn is that of an instruction that goes on.
func (m *model) wantOn() api.Act {
	now, again := m.now()
	switch {
	case again:
		return api.Act{Kind: 1, Addr: m.R.PC}
	case now.Bus == api.BusRead:
		return api.Act{Kind: 2, Addr: m.place(now.Place)}
	case now.Bus == api.BusWrite:
		return api.Act{Kind: 3, Addr: m.place(now.Place), Data: m.value(now.Value)}
	}
	return api.Act{}
}

// done is P22.4.
func (m *model) done(data uint8) {
	switch {
	case m.stands():
		return
	case m.Mode == 4:
		m.doneCall()
		return
	case !m.goesOn():
		m.Op, m.Cb, m.Step = data, false, 1
		if !m.Bug {
			m.R.PC++
		}
		m.Bug = false
	default:
		m.doneOn(data)
	}
	m.Mode = 0
	if !m.goesOn() {
		m.ends()
	}
}

// doneCall is a call behind its cycle.
func (m *model) doneCall() {
	switch m.Step {
	case 1:
		m.Step = 2
	case 2:
		m.Step = 3
		m.R.SP--
	case 3:
		m.Step = 4
		m.R.SP--
	case 4:
		m.Step, m.Mode, m.R.PC = 0, 0, 0
		if m.Lo < 5 {
			m.R.PC = 64 + 8*uint16(m.Lo)
		}
	default:
		m.Ime, m.Arm, m.Step = false, false, 1
	}
}

// doneOn is an instruction that goes on, behind its cycle.
func (m *model) doneOn(data uint8) {
	now, again := m.now()
	if again {
		m.Op, m.Cb, m.Step = data, true, 2
		m.R.PC++
		return
	}
	switch now.Place {
	case api.AtPC:
		m.R.PC++
	case api.AtUp:
		m.setPair(2, m.pair(2)+1)
	case api.AtDown:
		m.setPair(2, m.pair(2)-1)
	case api.AtPush:
		m.R.SP--
	case api.AtPop:
		m.R.SP++
	}
	if now.Bus == api.BusRead && now.Value == api.ValLo {
		m.Lo = data
	}
	if now.Bus == api.BusRead && now.Value == api.ValHi {
		m.Hi = data
	}
	m.Step++
}

// chanceRegs are registers of any numbers, often near the ends.
func chanceRegs(r *rand.Rand) api.Regs {
	b := func() uint8 {
		if r.Intn(3) == 0 {
			return [8]uint8{0, 1, 15, 16, 127, 128, 254, 255}[r.Intn(8)]
		}
		return uint8(r.Intn(256))
	}
	w := func() uint16 { return uint16(b())*256 + uint16(b()) }
	return api.Regs{A: b(), F: b(), B: b(), C: b(), D: b(), E: b(), H: b(), L: b(), SP: w(), PC: w()}
}

// chanceCpu is a processor with anything in its fields.
func chanceCpu(r *rand.Rand) api.Cpu {
	on := func() bool { return r.Intn(2) == 0 }
	return api.Cpu{
		R: chanceRegs(r), Ime: on(), Arm: on(), Bug: on(), Mode: uint8(r.Intn(6)), Op: uint8(r.Intn(256)),
		Cb: on(), Step: uint8(r.Intn(8)), Lo: uint8(r.Intn(256)), Hi: uint8(r.Intn(256)),
	}
}

// checkAt holds one processor against the model: Busy, Want, Done.
func checkAt(t *testing.T, c api.Cpu, data, pending uint8) {
	t.Helper()
	m := model{c, pending}
	if got := Busy(c); got != m.busy() {
		t.Fatalf("Busy(%+v) = %v", c, got)
	}
	d, act, n := Want(c, pending)
	wantAct, wantN := m.want()
	if d != m.Cpu || act != wantAct || n != wantN {
		t.Fatalf("Want(%+v, %d):\n got %+v %+v %d\nwant %+v %+v %d", c, pending, d, act, n, m.Cpu, wantAct, wantN)
	}
	m = model{c, pending}
	m.done(data)
	if got := Done(c, data, pending); got != m.Cpu {
		t.Fatalf("Done(%+v, %d, %d):\n got %+v\nwant %+v", c, data, pending, got, m.Cpu)
	}
}

// Boot's numbers, and that nothing goes on then (P22.1).
func TestBootByHand(t *testing.T) {
	want := api.Cpu{R: api.Regs{A: 1, F: 176, C: 19, E: 216, H: 1, L: 77, SP: 65534, PC: 256}}
	if got := Boot(); got != want || Busy(got) {
		t.Errorf("Boot() = %+v", got)
	}
}

// When something goes on, by hand (P22.1, R5).
func TestBusyByHand(t *testing.T) {
	z := api.Regs{F: 128}
	for _, row := range []struct {
		c    api.Cpu
		want bool
	}{
		{api.Cpu{}, false},
		{api.Cpu{Op: 0, Step: 1}, false},
		{api.Cpu{Op: 0xcd, Step: 0}, false},
		{api.Cpu{Op: 0xcd, Step: 5}, true},
		{api.Cpu{Op: 0xcd, Step: 6}, false},
		{api.Cpu{Op: 0xcd, Step: 255}, false},
		{api.Cpu{Op: 0xcd, Step: 5, Mode: 5}, true},
		{api.Cpu{Op: 0xcd, Step: 5, Mode: 255}, true},
		{api.Cpu{Op: 0xcd, Step: 5, Mode: api.ModeHalt}, false},
		{api.Cpu{Op: 0xcd, Step: 5, Mode: api.ModeStop}, false},
		{api.Cpu{Op: 0xcd, Step: 5, Mode: api.ModeLock}, false},
		{api.Cpu{Op: 0xcd, Step: 5, Mode: api.ModeCall}, false},
		{api.Cpu{Op: 0xc4, Step: 3, R: z}, false},
		{api.Cpu{Op: 0xc4, Step: 3}, true},
		{api.Cpu{Op: 0xcc, Step: 3, R: z}, true},
		{api.Cpu{Op: 203, Step: 1}, true},
		{api.Cpu{Op: 203, Step: 2}, false},
		{api.Cpu{Op: 203, Cb: true, Step: 1}, true},
		{api.Cpu{Op: 203, Cb: true, Step: 2}, false},
		{api.Cpu{Op: 0xc6, Cb: true, Step: 3}, true},
		{api.Cpu{Op: 0xc6, Cb: true, Step: 4}, false},
		{api.Cpu{Mode: api.ModeCall}, false},
		{api.Cpu{Mode: api.ModeCall, Step: 1}, true},
		{api.Cpu{Mode: api.ModeCall, Step: 4}, true},
		{api.Cpu{Mode: api.ModeCall, Step: 5}, false},
		{api.Cpu{Mode: api.ModeCall, Op: 0xcd, Step: 5}, false},
		{api.Cpu{Mode: api.ModeCall, Step: 255}, false},
	} {
		if got := Busy(row.c); got != row.want {
			t.Errorf("Busy(%+v) = %v", row.c, got)
		}
	}
}

// The chapter's examples (P22.2, P22.4, P22.5).
func TestExamples(t *testing.T) {
	c := api.Cpu{R: api.Regs{A: 1, PC: 256}}
	d, act, n := Want(c, 0)
	if d != c || act != (api.Act{Kind: api.ActFetch, Addr: 256}) || n != -1 {
		t.Errorf("Want: %+v %+v %d", d, act, n)
	}
	if e := Done(d, 60, 0); e != (api.Cpu{R: api.Regs{A: 2, PC: 257}, Op: 60}) {
		t.Errorf("INC A: %+v", e)
	}
	e := Done(d, 195, 0)
	for i, row := range []struct {
		act  api.Act
		data uint8
	}{
		{api.Act{Kind: api.ActRead, Addr: 257}, 0x50},
		{api.Act{Kind: api.ActRead, Addr: 258}, 0x01},
		{api.Act{}, 99},
	} {
		if !Busy(e) {
			t.Fatal("it should go on", i)
		}
		f, act, n := Want(e, 0)
		if f != e || act != row.act || n != -1 {
			t.Errorf("cycle %d: %+v %+v %d", i, f, act, n)
		}
		e = Done(f, row.data, 0)
	}
	if e != (api.Cpu{R: api.Regs{A: 1, PC: 0x150}, Op: 195, Lo: 0x50, Hi: 1}) {
		t.Errorf("JP: %+v", e)
	}
}

// Every opcode, with and without the prefix, in every cycle and mode, and in
// those that there aren't (P22.1 to P22.5, R5).
func TestEveryPlace(t *testing.T) {
	r := rand.New(rand.NewSource(221))
	for _, mode := range []uint8{0, 1, 2, 3, 4, 5, 255} {
		for _, step := range []uint8{0, 1, 2, 3, 4, 5, 6, 7, 8, 127, 128, 254, 255} {
			for op := range 512 {
				for range 3 {
					c := chanceCpu(r)
					c.Mode, c.Step, c.Op, c.Cb = mode, step, uint8(op%256), op >= 256
					checkAt(t, c, uint8(r.Intn(256)), uint8(r.Intn(256)))
				}
			}
		}
	}
}

// Processors of any numbers (P22.1 to P22.5, R5).
func TestChance(t *testing.T) {
	r := rand.New(rand.NewSource(222))
	for range 400000 {
		c := chanceCpu(r)
		if r.Intn(10) == 0 {
			c.Mode, c.Step = uint8(r.Intn(256)), uint8(r.Intn(256))
		}
		checkAt(t, c, uint8(r.Intn(256)), uint8(r.Intn(256))&uint8(r.Intn(256))&uint8(r.Intn(256)))
	}
}

// Every byte fetched at a beginning, and behind the prefix, with every value of
// the byte that is worked on and both states of the carry (P22.5).
func TestEveryByte(t *testing.T) {
	r := rand.New(rand.NewSource(223))
	for op := range 512 {
		for v := range 256 {
			c := api.Cpu{R: chanceRegs(r), Ime: v%2 == 0, Lo: uint8(v), Hi: uint8(r.Intn(256))}
			m := model{Cpu: c}
			for n := range 8 {
				if n != 7 || op%8 == 7 {
					m.set(n, v)
				}
			}
			c = m.Cpu
			if op >= 256 {
				c.Op, c.Step = 203, 1
			}
			checkAt(t, c, uint8(op%256), 0)
			checkAt(t, c, uint8(op%256), uint8(v))
		}
	}
}

// A and F of every number behind DAA, and CPL, SCF, CCF (P22.5).
func TestEveryA(t *testing.T) {
	for a := range 256 {
		for f := range 256 {
			for _, op := range []uint8{0x07, 0x0f, 0x17, 0x1f, 0x27, 0x2f, 0x37, 0x3f} {
				checkAt(t, api.Cpu{R: api.Regs{A: uint8(a), F: uint8(f)}}, op, 0)
			}
		}
	}
}

// whole does an instruction as a whole, over a memory: its acts are told here
// by the opcode's bits, without plans (P22.7).
type whole struct {
	model
	mem  *[65536]uint8
	acts []api.Act
}

// read is an act that reads.
func (w *whole) read(kind int, at uint16) uint8 {
	w.acts = append(w.acts, api.Act{Kind: kind, Addr: at})
	return w.mem[at]
}

// write is one that writes.
func (w *whole) write(at, v int) {
	w.acts = append(w.acts, api.Act{Kind: api.ActWrite, Addr: uint16(at), Data: uint8(v)})
	w.mem[uint16(at)] = uint8(v)
}

// idle are cycles with nothing on the bus.
func (w *whole) idle(n int) {
	for range n {
		w.acts = append(w.acts, api.Act{})
	}
}

// lo and hi are the bytes behind the opcode.
func (w *whole) lo() {
	w.Lo = w.read(api.ActRead, w.R.PC)
	w.R.PC++
}

func (w *whole) both() {
	w.lo()
	w.Hi = w.read(api.ActRead, w.R.PC)
	w.R.PC++
}

// push lays a word on the stack.
func (w *whole) push(v int) {
	w.idle(1)
	for _, b := range []int{v / 256, v % 256} {
		w.R.SP--
		w.write(int(w.R.SP), b)
	}
}

// pop takes one.
func (w *whole) pop() {
	w.Lo = w.read(api.ActRead, w.R.SP)
	w.Hi = w.read(api.ActRead, w.R.SP+1)
	w.R.SP += 2
}

// atHL reads the byte at HL.
func (w *whole) atHL() {
	w.Lo = w.read(api.ActRead, uint16(w.pair(2)))
}

// changeHL writes what the operation comes to at HL.
func (w *whole) changeHL() {
	w.atHL()
	out, _, _, _, _ := w.changed(w.Op, w.Cb, int(w.Lo))
	w.write(w.pair(2), out)
}

// instruction does one from a beginning on.
func (w *whole) instruction() {
	if w.Arm {
		w.Ime, w.Arm = true, false
	}
	w.Op, w.Cb, w.Mode = w.read(api.ActFetch, w.R.PC), false, 0
	if !w.Bug {
		w.R.PC++
	}
	w.Bug = false
	y, z := int(w.Op)/8%8, int(w.Op)%8
	switch {
	case w.Op == 203:
		w.Op, w.Cb = w.read(api.ActFetch, w.R.PC), true
		w.R.PC++
		switch {
		case w.Op%8 == 6 && w.Op/64 == 1:
			w.atHL()
		case w.Op%8 == 6:
			w.changeHL()
		}
	case w.Op < 64:
		w.actsFirst(y, z)
	case w.Op == 0x76:
	case w.Op < 192 && z == 6:
		w.atHL()
	case w.Op < 128 && y == 6:
		w.write(w.pair(2), w.get(z))
	case w.Op >= 192:
		w.actsLast(y, z)
	}
	w.ends()
}

// actsFirst are the acts of the opcodes below 64.
func (w *whole) actsFirst(y, z int) {
	switch {
	case w.Op == 0x08:
		w.both()
		w.write(w.word(), int(w.R.SP)%256)
		w.write(w.word()+1, int(w.R.SP)/256)
	case w.Op == 0x10:
		w.lo()
	case z == 0 && w.Op != 0:
		w.lo()
		if y == 3 || w.holds(y%4) {
			w.idle(1)
		}
	case z == 1 && y%2 == 0:
		w.both()
	case z == 1, z == 3:
		w.idle(1)
	case z == 2:
		n := [4]int{0, 1, 2, 2}[y/2]
		at := w.pair(n)
		w.setPair(n, at+[4]int{0, 0, 1, -1}[y/2])
		if y%2 == 0 {
			w.write(at, int(w.R.A))
		} else {
			w.Lo = w.read(api.ActRead, uint16(at))
		}
	case z == 6:
		w.lo()
		if y == 6 {
			w.write(w.pair(2), int(w.Lo))
		}
	case (z == 4 || z == 5) && y == 6:
		w.changeHL()
	}
}

// actsLast are the acts of the opcodes from 192 on.
func (w *whole) actsLast(y, z int) {
	taken := y >= 4 || w.holds(y%4)
	switch w.Op {
	case 0xe0:
		w.lo()
		w.write(0xff00+int(w.Lo), int(w.R.A))
	case 0xf0:
		w.lo()
		w.Lo = w.read(api.ActRead, 0xff00+uint16(w.Lo))
	case 0xe2:
		w.write(0xff00+int(w.R.C), int(w.R.A))
	case 0xf2:
		w.Lo = w.read(api.ActRead, 0xff00+uint16(w.R.C))
	case 0xea:
		w.both()
		w.write(w.word(), int(w.R.A))
	case 0xfa:
		w.both()
		w.Lo = w.read(api.ActRead, uint16(w.word()))
	case 0xe8:
		w.lo()
		w.idle(2)
	case 0xf8:
		w.lo()
		w.idle(1)
	case 0xf9:
		w.idle(1)
	case 0xc9, 0xd9:
		w.pop()
		w.idle(1)
	case 0xc3:
		w.both()
		w.idle(1)
	case 0xcd:
		w.both()
		w.push(int(w.R.PC))
	case 0xc0, 0xc8, 0xd0, 0xd8:
		w.idle(1)
		if taken {
			w.pop()
			w.idle(1)
		}
	case 0xc2, 0xca, 0xd2, 0xda:
		w.both()
		if taken {
			w.idle(1)
		}
	case 0xc4, 0xcc, 0xd4, 0xdc:
		w.both()
		if taken {
			w.push(int(w.R.PC))
		}
	case 0xc1, 0xd1, 0xe1, 0xf1:
		w.pop()
	case 0xc5, 0xd5, 0xe5, 0xf5:
		w.push(w.pair([4]int{0, 1, 2, 4}[y/2]))
	default:
		switch z {
		case 6:
			w.lo()
		case 7:
			w.push(int(w.R.PC))
		}
	}
}

// instruct runs one instruction by cycles, with nothing pending.
func instruct(t *testing.T, c api.Cpu, mem *[65536]uint8) (api.Cpu, []api.Act) {
	t.Helper()
	var acts []api.Act
	for {
		d, act, n := Want(c, 0)
		if n != -1 {
			t.Fatalf("took %d", n)
		}
		acts = append(acts, act)
		data := uint8(len(acts) * 37) // any, where none was read
		switch act.Kind {
		case api.ActFetch, api.ActRead:
			data = mem[act.Addr]
		case api.ActWrite:
			mem[act.Addr] = act.Data
		}
		c = Done(d, data, 0)
		if !Busy(c) {
			return c, acts
		}
		if len(acts) > 6 {
			t.Fatalf("no end: %+v", c)
		}
	}
}

// same tells whether two lists of acts are.
func same(a, b []api.Act) bool {
	if len(a) != len(b) {
		return false
	}
	for i := range a {
		if a[i] != b[i] {
			return false
		}
	}
	return true
}

// checkWhole holds an instruction, cycle by cycle, against it as a whole.
func checkWhole(t *testing.T, c api.Cpu, mem *[65536]uint8) api.Cpu {
	t.Helper()
	other := *mem
	w := whole{model: model{Cpu: c}, mem: &other}
	w.instruction()
	got, acts := instruct(t, c, mem)
	if got != w.Cpu || !same(acts, w.acts) || *mem != other {
		t.Fatalf("%02x of %+v:\n got %+v %v\nwant %+v %v", w.Op, c, got, acts, w.Cpu, w.acts)
	}
	return got
}

// Every instruction, cycle by cycle, is that as a whole, and takes as many
// cycles as its form says (P22.6, P22.7).
func TestEveryInstruction(t *testing.T) {
	r := rand.New(rand.NewSource(224))
	mem := new([65536]uint8)
	for op := range 512 {
		for range 40 {
			c := api.Cpu{R: chanceRegs(r), Lo: uint8(r.Intn(256)), Hi: uint8(r.Intn(256)), Op: uint8(r.Intn(256))}
			c.Ime, c.Arm, c.Bug = r.Intn(2) == 0, r.Intn(2) == 0, r.Intn(8) == 0
			r.Read(mem[:])
			form := opcode.Decode(uint8(op % 256))
			mem[c.R.PC] = uint8(op % 256)
			if op == 203 || op >= 256 {
				c.Bug = false
				form = opcode.DecodeCB(uint8(op % 256))
				mem[c.R.PC], mem[c.R.PC+1] = 203, uint8(op%256)
			}
			cycles := form.Cycles
			if m := (model{Cpu: c}); form.X < 4 && form.Taken > cycles && m.holds(form.X) {
				cycles = form.Taken
			}
			before := *mem
			if _, acts := instruct(t, c, &before); len(acts) != cycles {
				t.Fatalf("%d took %d", op, len(acts))
			}
			checkWhole(t, c, mem)
		}
	}
}

// Programs of chance, instruction behind instruction, are what they are as
// wholes; the low bits of F stay 0 (P22.6, P22.7).
func TestPrograms(t *testing.T) {
	r := rand.New(rand.NewSource(225))
	for range 30 {
		mem := new([65536]uint8)
		r.Read(mem[:])
		c := Boot()
		c.R.PC = uint16(r.Intn(65536))
		for range 300 {
			c = checkWhole(t, c, mem)
			if c.R.F%16 != 0 {
				t.Fatalf("F is %d", c.R.F)
			}
			if c.Mode != api.ModeRun {
				c.Mode, c.R.PC = api.ModeRun, uint16(r.Intn(65536))
			}
		}
	}
}

// cycleRow is a cycle of a table: what is pending ahead of it, what is read,
// and what is pending when it is done.
type cycleRow struct {
	pending, data, later uint8
	act                  api.Act
	taken                int
}

// follow does cycles, and holds their acts against a table.
func follow(t *testing.T, c api.Cpu, rows []cycleRow) api.Cpu {
	t.Helper()
	for i, row := range rows {
		d, act, n := Want(c, row.pending)
		if act != row.act || n != row.taken {
			t.Fatalf("cycle %d: %+v %d", i, act, n)
		}
		c = Done(d, row.data, row.later)
	}
	return c
}

// fetchAt and writeAt are acts.
func fetchAt(at uint16) api.Act {
	return api.Act{Kind: api.ActFetch, Addr: at}
}

func writeAt(at uint16, v uint8) api.Act {
	return api.Act{Kind: api.ActWrite, Addr: at, Data: v}
}

// A call takes five cycles, pushes PC, lets no other one in, and leads to the
// vector of what is the first one pending in its fourth (P22.2, P22.4, P22.6).
func TestCallByHand(t *testing.T) {
	for first := range 32 {
		for late := range 256 {
			c := api.Cpu{R: api.Regs{PC: 0x1234, SP: 1}, Ime: true, Arm: late%2 == 0, Lo: 77, Hi: 88}
			if first == 0 {
				continue
			}
			taken, vector := -1, uint16(0)
			for n := 4; n >= 0; n-- {
				if late>>n%2 == 1 {
					taken, vector = n, uint16(64+8*n)
				}
			}
			lo := uint8(taken)
			if taken == -1 {
				lo = 5
			}
			got := follow(t, c, []cycleRow{
				{pending: uint8(first), taken: -1},
				{pending: 31, taken: -1},
				{pending: 0, act: writeAt(0, 0x12), taken: -1},
				{pending: uint8(late), act: writeAt(0xffff, 0x34), taken: taken},
				{pending: 31, taken: -1},
			})
			if got != (api.Cpu{R: api.Regs{PC: vector, SP: 0xffff}, Lo: lo, Hi: 88}) {
				t.Fatalf("%d, %d: %+v", first, late, got)
			}
			// Nothing is let in any more.
			if _, act, _ := Want(got, 31); act != fetchAt(vector) {
				t.Fatalf("%+v", act)
			}
		}
	}
}

// A call goes on in its own order, whatever the processor's Ime is meanwhile.
func TestCallBusy(t *testing.T) {
	c := api.Cpu{Ime: true}
	want := []bool{true, true, true, true, false}
	for i, busy := range want {
		d, _, _ := Want(c, 1)
		if c = Done(d, 0, 1); Busy(c) != busy {
			t.Errorf("behind cycle %d: %+v", i, c)
		}
	}
	if c.R.PC != 64 || c.Mode != api.ModeRun {
		t.Errorf("%+v", c)
	}
}

// What EI lets in comes behind the instruction behind it; DI takes it back
// (P22.2, P22.5, P22.6).
func TestEiByHand(t *testing.T) {
	got := follow(t, api.Cpu{}, []cycleRow{
		{pending: 1, data: 0xfb, act: fetchAt(0), taken: -1},
		{pending: 1, data: 0x00, act: fetchAt(1), taken: -1},
		{pending: 1, taken: -1},
	})
	if got.Mode != api.ModeCall || got.Step != 1 || got.Ime || got.Arm || got.R.PC != 2 {
		t.Errorf("EI, NOP: %+v", got)
	}
	got = follow(t, api.Cpu{}, []cycleRow{
		{pending: 1, data: 0xfb, act: fetchAt(0), taken: -1},
		{pending: 1, data: 0xf3, act: fetchAt(1), taken: -1},
		{pending: 1, data: 0x00, act: fetchAt(2), taken: -1},
	})
	if got.Ime || got.Arm || got.R.PC != 3 {
		t.Errorf("EI, DI: %+v", got)
	}
	got = follow(t, api.Cpu{}, []cycleRow{
		{pending: 1, data: 0xfb, act: fetchAt(0), taken: -1},
		{pending: 1, data: 0xfb, act: fetchAt(1), taken: -1},
		{pending: 1, taken: -1},
	})
	if got.Ime || got.Arm {
		t.Errorf("EI, EI: %+v", got)
	}
	// Of RETI nothing waits.
	got = follow(t, api.Cpu{}, []cycleRow{
		{pending: 1, data: 0xd9, act: fetchAt(0), taken: -1},
		{pending: 1, data: 0x34, act: api.Act{Kind: api.ActRead}, taken: -1},
		{pending: 1, data: 0x12, act: api.Act{Kind: api.ActRead, Addr: 1}, taken: -1},
		{pending: 1, taken: -1},
		{pending: 1, taken: -1},
	})
	if got.Mode != api.ModeCall || got.R.PC != 0x1234 || got.R.SP != 2 {
		t.Errorf("RETI: %+v", got)
	}
}

// A halted processor waits till something is pending; with interrupts it is
// called then, else it goes on; if something is pending when it would halt, and
// nothing is let in, the next fetch doesn't move PC (P22.2, P22.5, P22.6).
func TestHaltByHand(t *testing.T) {
	halt := cycleRow{data: 0x76, act: fetchAt(0), taken: -1}
	waits := cycleRow{pending: 0xe0, later: 31, taken: -1}
	c := follow(t, api.Cpu{}, []cycleRow{halt, waits, waits, waits})
	if c != (api.Cpu{R: api.Regs{PC: 1}, Mode: api.ModeHalt, Op: 0x76}) {
		t.Errorf("halted: %+v", c)
	}
	c = follow(t, c, []cycleRow{{pending: 8, data: 0x3c, act: fetchAt(1), taken: -1}})
	if c != (api.Cpu{R: api.Regs{PC: 2, A: 1}, Op: 0x3c}) {
		t.Errorf("woken: %+v", c)
	}
	c = follow(t, api.Cpu{Ime: true}, []cycleRow{halt, waits, {pending: 16, taken: -1}})
	if c != (api.Cpu{R: api.Regs{PC: 1}, Mode: api.ModeCall, Op: 0x76, Step: 1}) {
		t.Errorf("called: %+v", c)
	}
	halt.later = 4
	c = follow(t, api.Cpu{}, []cycleRow{halt})
	if c != (api.Cpu{R: api.Regs{PC: 1}, Bug: true, Op: 0x76}) {
		t.Errorf("stumbled: %+v", c)
	}
	c = follow(t, c, []cycleRow{
		{pending: 4, data: 0x3c, act: fetchAt(1), taken: -1},
		{pending: 4, data: 0x3c, act: fetchAt(1), taken: -1},
	})
	if c != (api.Cpu{R: api.Regs{PC: 2, A: 2}, Op: 0x3c}) {
		t.Errorf("twice: %+v", c)
	}
	// With interrupts let in, and with bits that are no interrupt's, it halts.
	if c = follow(t, api.Cpu{Ime: true}, []cycleRow{halt}); c.Mode != api.ModeHalt || c.Bug {
		t.Errorf("with Ime: %+v", c)
	}
	halt.later = 0xe0
	if c = follow(t, api.Cpu{}, []cycleRow{halt}); c.Mode != api.ModeHalt || c.Bug {
		t.Errorf("with others: %+v", c)
	}
	// What EI armed is on when HALT is fetched, so it halts, and is called.
	halt.later = 0
	if c = follow(t, api.Cpu{Arm: true}, []cycleRow{halt}); c.Mode != api.ModeHalt || !c.Ime || c.Arm {
		t.Errorf("armed: %+v", c)
	}
}

// A stopped processor waits for a key; a locked one for nothing (P22.2, P22.6).
func TestStopAndLockByHand(t *testing.T) {
	c := follow(t, api.Cpu{}, []cycleRow{
		{data: 0x10, act: fetchAt(0), taken: -1},
		{data: 9, act: api.Act{Kind: api.ActRead, Addr: 1}, taken: -1},
		{pending: 0xef, later: 31, taken: -1},
	})
	if c != (api.Cpu{R: api.Regs{PC: 2}, Mode: api.ModeStop, Op: 0x10, Lo: 9}) {
		t.Errorf("stopped: %+v", c)
	}
	c = follow(t, c, []cycleRow{{pending: 16, data: 0x04, act: fetchAt(2), taken: -1}})
	if c != (api.Cpu{R: api.Regs{PC: 3, B: 1}, Op: 0x04, Lo: 9}) {
		t.Errorf("woken: %+v", c)
	}
	for op := range 256 {
		if !illegal(uint8(op)) {
			continue
		}
		c := Done(api.Cpu{Ime: true}, uint8(op), 31)
		if c != (api.Cpu{R: api.Regs{PC: 1}, Ime: true, Mode: api.ModeLock, Op: uint8(op)}) {
			t.Errorf("locked: %+v", c)
		}
		for pending := range 256 {
			d, act, n := Want(c, uint8(pending))
			if d != c || act != (api.Act{}) || n != -1 || Done(d, 5, uint8(pending)) != c {
				t.Fatalf("%+v %+v %d", d, act, n)
			}
		}
	}
}

// A processor that no one would tell stands still all the same (R5): what waits
// keeps its Step, and begins anew when it is woken.
func TestStrangeByHand(t *testing.T) {
	c := api.Cpu{Mode: api.ModeHalt, Op: 0xcd, Step: 3, Cb: true, Bug: true}
	if d, act, n := Want(c, 0xe0); d != c || act != (api.Act{}) || n != -1 {
		t.Errorf("halted: %+v %+v %d", d, act, n)
	}
	woken := api.Cpu{Op: 0xcd, Cb: true, Bug: true}
	if d, act, n := Want(c, 1); d != woken || act != fetchAt(0) || n != -1 {
		t.Errorf("woken: %+v %+v %d", d, act, n)
	}
	// A call that is past its end begins anew, and is done as at its beginning.
	c = api.Cpu{Mode: api.ModeCall, Step: 5, Ime: true, Arm: true}
	if d, act, n := Want(c, 0); d != (api.Cpu{Ime: true}) || act != fetchAt(0) || n != -1 {
		t.Errorf("past: %+v %+v %d", d, act, n)
	}
	if d := Done(c, 1, 1); d != (api.Cpu{Mode: api.ModeCall, Step: 1}) {
		t.Errorf("past: %+v", d)
	}
	// A mode that there isn't goes on as the running one, and becomes it.
	c = api.Cpu{Mode: 9, Op: 0x3e, Step: 1}
	if d, act, _ := Want(c, 0); d != c || act.Kind != api.ActRead {
		t.Errorf("mode 9: %+v %+v", d, act)
	}
	if d := Done(c, 7, 0); d != (api.Cpu{R: api.Regs{A: 7, PC: 1}, Op: 0x3e, Lo: 7}) {
		t.Errorf("mode 9: %+v", d)
	}
	// No interrupt's number from 5 on has a vector.
	for lo := range 256 {
		want := uint16(0)
		if lo < 5 {
			want = uint16(64 + 8*lo)
		}
		c := api.Cpu{R: api.Regs{PC: 9}, Mode: api.ModeCall, Step: 4, Lo: uint8(lo)}
		if d := Done(c, 1, 1); d != (api.Cpu{R: api.Regs{PC: want}, Lo: uint8(lo)}) {
			t.Errorf("vector of %d: %+v", lo, d)
		}
	}
}

// Places and registers run round at their ends (P22.3, P22.4).
func TestEndsRunRound(t *testing.T) {
	top := api.Regs{SP: 0xffff, PC: 0xffff, H: 0xff, L: 0xff}
	c := Done(api.Cpu{R: top}, 0x2a, 0) // LD A,(HL+)
	if c.R.PC != 0 {
		t.Errorf("PC: %+v", c)
	}
	if c = Done(c, 3, 0); c.R.H != 0 || c.R.L != 0 || c.R.A != 3 {
		t.Errorf("Up: %+v", c)
	}
	c = Done(Done(api.Cpu{}, 0x32, 0), 0, 0) // LD (HL-),A
	if c.R.H != 255 || c.R.L != 255 {
		t.Errorf("Down: %+v", c)
	}
	c = Done(api.Cpu{R: top}, 0xc1, 0) // POP BC
	if _, act, _ := Want(c, 0); act != (api.Act{Kind: api.ActRead, Addr: 0xffff}) {
		t.Errorf("Pop: %+v", act)
	}
	if _, act, _ := Want(Done(c, 0, 0), 0); act != (api.Act{Kind: api.ActRead, Addr: 0}) {
		t.Errorf("Pop: %+v", act)
	}
	c = Done(Done(api.Cpu{}, 0xc5, 0), 0, 0) // PUSH BC
	if _, act, _ := Want(c, 0); act != writeAt(0xffff, 0) {
		t.Errorf("Push: %+v", act)
	}
	c = api.Cpu{R: api.Regs{SP: 0xabcd}, Op: 8, Step: 4, Lo: 255, Hi: 255} // LD (FFFF),SP
	if _, act, _ := Want(c, 0); act != writeAt(0, 0xab) {
		t.Errorf("Next: %+v", act)
	}
	c = api.Cpu{R: api.Regs{PC: 2}, Op: 0x18, Step: 2, Lo: 0x80} // JR -128
	if d := Done(c, 0, 0); d.R.PC != 0xff82 {
		t.Errorf("JR: %+v", d)
	}
}

// What is handed in stays as it is, and the same is answered again (R3, R4).
func TestNothingKept(t *testing.T) {
	r := rand.New(rand.NewSource(226))
	for range 2000 {
		c, data, pending := chanceCpu(r), uint8(r.Intn(256)), uint8(r.Intn(256))
		kept := c
		d1, a1, n1 := Want(c, pending)
		e1 := Done(c, data, pending)
		Want(chanceCpu(r), 31)
		Done(chanceCpu(r), 1, 2)
		d2, a2, n2 := Want(c, pending)
		if d1 != d2 || a1 != a2 || n1 != n2 || e1 != Done(c, data, pending) || c != kept {
			t.Fatalf("%+v", c)
		}
	}
}
