package solo

import (
	"whirligig/api"
)

// whole is a machine of the tests' own: it does instructions one behind the
// other by their meaning alone, in whole numbers and by the bits of their
// opcodes, and asks no layer of the program. An instruction's bytes are local
// to it: between two of them there are registers, the memory and four switches.
type whole struct {
	b          [8]int // B, C, D, E, H, L, none, A
	z, n, h, c bool
	sp, pc     int
	ime, arm   bool
	mode       uint8
	mem        [65536]byte
	acts       []api.Act
}

// The numbers that stand for the byte at HL, and for A.
const (
	hl = 6
	ra = 7
)

// newWhole is one with such registers and such a memory.
func newWhole(c api.Cpu, mem []byte) *whole {
	r, f := c.R, c.R.F
	w := &whole{
		b: [8]int{int(r.B), int(r.C), int(r.D), int(r.E), int(r.H), int(r.L), 0, int(r.A)},
		z: f >= 128, n: f/64%2 == 1, h: f/32%2 == 1, c: f/16%2 == 1,
		sp: int(r.SP), pc: int(r.PC), ime: c.Ime, arm: c.Arm, mode: c.Mode,
	}
	copy(w.mem[:], mem)
	return w
}

// regs are its registers.
func (w *whole) regs() api.Regs {
	f := 0
	for i, on := range [4]bool{w.c, w.h, w.n, w.z} {
		if on {
			f += 16 << i
		}
	}
	b := func(n int) uint8 { return uint8(w.b[n]) }
	return api.Regs{
		A: b(7), F: uint8(f), B: b(0), C: b(1), D: b(2), E: b(3), H: b(4), L: b(5),
		SP: uint16(w.sp), PC: uint16(w.pc),
	}
}

// round is a number modulo 65536.
func round(v int) int {
	return (v%65536 + 65536) % 65536
}

// get reads a place.
func (w *whole) get(kind, at int) int {
	at = round(at)
	v := w.mem[at]
	w.acts = append(w.acts, api.Act{Kind: kind, Addr: uint16(at), Data: v})
	return int(v)
}

// read reads one that isn't fetched.
func (w *whole) read(at int) int {
	return w.get(api.ActRead, at)
}

// write writes one.
func (w *whole) write(at, v int) {
	at = round(at)
	w.mem[at] = byte(v)
	w.acts = append(w.acts, api.Act{Kind: api.ActWrite, Addr: uint16(at), Data: uint8(v)})
}

// rest does nothing on the bus.
func (w *whole) rest() {
	w.acts = append(w.acts, api.Act{})
}

// next reads the byte at PC, which goes on.
func (w *whole) next(kind int) int {
	v := w.get(kind, w.pc)
	w.pc = round(w.pc + 1)
	return v
}

// byteBehind and wordBehind stand behind the opcode.
func (w *whole) byteBehind() int {
	return w.next(api.ActRead)
}

func (w *whole) wordBehind() int {
	low := w.byteBehind()
	return w.byteBehind()*256 + low
}

// signed is a byte from -128 to 127.
func signed(v int) int {
	return (v+128)%256 - 128
}

// pair is BC, DE, HL, SP.
func (w *whole) pair(n int) int {
	if n == 3 {
		return w.sp
	}
	return w.b[2*n]*256 + w.b[2*n+1]
}

// setPair sets one.
func (w *whole) setPair(n, v int) {
	v = round(v)
	if n == 3 {
		w.sp = v
		return
	}
	w.b[2*n], w.b[2*n+1] = v/256, v%256
}

// from is a register, or the byte at HL.
func (w *whole) from(n int) int {
	if n == hl {
		return w.read(w.pair(2))
	}
	return w.b[n]
}

// to sets it.
func (w *whole) to(n, v int) {
	if n == hl {
		w.write(w.pair(2), v)
		return
	}
	w.b[n] = v
}

// push lays a word on the stack.
func (w *whole) push(v int) {
	w.rest()
	w.write(w.sp-1, v/256)
	w.write(w.sp-2, v%256)
	w.sp = round(w.sp - 2)
}

// pop takes one from it.
func (w *whole) pop() int {
	low := w.read(w.sp)
	high := w.read(w.sp + 1)
	w.sp = round(w.sp + 2)
	return high*256 + low
}

// holds asks NZ, Z, NC, C.
func (w *whole) holds(n int) bool {
	return [4]bool{!w.z, w.z, !w.c, w.c}[n]
}

// bit is 1 of what is so.
func bit(on bool) int {
	if on {
		return 1
	}
	return 0
}

// add adds to A, with what is carried in.
func (w *whole) add(v, in int) {
	a := w.b[ra]
	w.b[ra] = (a + v + in) % 256
	w.z, w.n, w.h, w.c = w.b[ra] == 0, false, a%16+v%16+in >= 16, a+v+in >= 256
}

// less is A less a byte and what is borrowed.
func (w *whole) less(v, in int) int {
	a := w.b[ra]
	out := (a - v - in + 512) % 256
	w.z, w.n, w.h, w.c = out == 0, true, a%16 < v%16+in, a < v+in
	return out
}

// reckon is ADD, ADC, SUB, SBC, AND, XOR, OR, CP.
func (w *whole) reckon(op, v int) {
	switch op {
	case 0:
		w.add(v, 0)
	case 1:
		w.add(v, bit(w.c))
	case 2:
		w.b[ra] = w.less(v, 0)
	case 3:
		w.b[ra] = w.less(v, bit(w.c))
	case 7:
		w.less(v, 0)
	default:
		a := w.b[ra]
		w.b[ra] = [3]int{a & v, a ^ v, a | v}[op-4]
		w.z, w.n, w.h, w.c = w.b[ra] == 0, false, op == 4, false
	}
}

// shifted is RLC, RRC, RL, RR, SLA, SRA, SWAP, SRL, with all flags but Z.
func (w *whole) shifted(op, v int) int {
	in := [8]int{v / 128, v % 2, bit(w.c), bit(w.c), 0, v / 128, 0, 0}[op]
	w.n, w.h = false, false
	switch op {
	case 0, 2, 4:
		w.c = v >= 128
		return v*2%256 + in
	case 6:
		w.c = false
		return v%16*16 + v/16
	}
	w.c = v%2 == 1
	return v/2 + in*128
}

// behindPrefix does what is fetched behind the prefix.
func (w *whole) behindPrefix() {
	op := w.next(api.ActFetch)
	x, y := op/8%8, op%8
	v := w.from(y)
	one := v>>x%2 == 1
	switch op / 64 {
	case 0:
		v = w.shifted(x, v)
		w.z = v == 0
		w.to(y, v)
	case 1:
		w.z, w.n, w.h = !one, false, true
	case 2:
		w.to(y, v-bit(one)<<x)
	case 3:
		w.to(y, v+bit(!one)<<x)
	}
}

// spAnd is SP and the signed byte behind the opcode.
func (w *whole) spAnd() int {
	v := w.byteBehind()
	w.z, w.n, w.h, w.c = false, false, w.sp%16+v%16 >= 16, w.sp%256+v >= 256
	return round(w.sp + signed(v))
}

// decimal is DAA.
func (w *whole) decimal() {
	a, by := w.b[ra], 0
	if w.h || !w.n && a%16 > 9 {
		by = 6
	}
	if w.c || !w.n && a > 0x99 {
		by += 0x60
		w.c = true
	}
	if w.n {
		by = -by
	}
	w.b[ra] = (a + by + 256) % 256
	w.z, w.h = w.b[ra] == 0, false
}

// instruction does one whole instruction; nothing is pending.
func (w *whole) instruction() {
	if w.arm {
		w.ime, w.arm = true, false
	}
	op := w.next(api.ActFetch)
	x, y := op/8%8, op%8
	switch {
	case op == 0x76:
		w.mode = api.ModeHalt
	case op == 0xcb:
		w.behindPrefix()
	case op < 64:
		w.low(op, x, y)
	case op < 128:
		w.to(x, w.from(y))
	case op < 192:
		w.reckon(x, w.from(y))
	default:
		w.high(op, x, y)
	}
}

// low is the first quarter.
func (w *whole) low(op, x, y int) {
	p := x / 2
	switch y {
	case 0:
		w.lowJumps(op, x)
	case 1:
		w.lowWords(p, x%2 == 1)
	case 2:
		w.pointed(p, x%2 == 1)
	case 3:
		w.rest()
		w.setPair(p, w.pair(p)+1-x%2*2)
	case 4:
		v := (w.from(x) + 1) % 256
		w.z, w.n, w.h = v == 0, false, v%16 == 0
		w.to(x, v)
	case 5:
		v := (w.from(x) + 255) % 256
		w.z, w.n, w.h = v == 0, true, v%16 == 15
		w.to(x, v)
	case 6:
		w.to(x, w.byteBehind())
	case 7:
		w.lowOfA(x)
	}
}

// lowJumps are NOP, LD (nn),SP, STOP and JR.
func (w *whole) lowJumps(op, x int) {
	switch op {
	case 0x00:
	case 0x08:
		at := w.wordBehind()
		w.write(at, w.sp%256)
		w.write(at+1, w.sp/256)
	case 0x10:
		w.byteBehind()
		w.mode = api.ModeStop
	default:
		by := signed(w.byteBehind())
		if op == 0x18 || w.holds(x-4) {
			w.rest()
			w.pc = round(w.pc + by)
		}
	}
}

// lowWords are LD of a pair and a word, and ADD HL.
func (w *whole) lowWords(p int, adds bool) {
	if !adds {
		w.setPair(p, w.wordBehind())
		return
	}
	w.rest()
	a, b := w.pair(2), w.pair(p)
	w.setPair(2, a+b)
	w.n, w.h, w.c = false, a%4096+b%4096 >= 4096, a+b >= 65536
}

// pointed are loads and stores of A where BC, DE, HL+, HL- point.
func (w *whole) pointed(p int, loads bool) {
	at := w.pair([4]int{0, 1, 2, 2}[p])
	if loads {
		w.b[ra] = w.read(at)
	} else {
		w.write(at, w.b[ra])
	}
	if p >= 2 {
		w.setPair(2, at+[2]int{1, -1}[p-2])
	}
}

// lowOfA is what works on A and the flags alone.
func (w *whole) lowOfA(x int) {
	switch x {
	case 4:
		w.decimal()
	case 5:
		w.b[ra] = 255 - w.b[ra]
		w.n, w.h = true, true
	case 6:
		w.n, w.h, w.c = false, false, true
	case 7:
		w.n, w.h, w.c = false, false, !w.c
	default:
		w.b[ra] = w.shifted(x, w.b[ra])
		w.z = false
	}
}

// high is the last quarter.
func (w *whole) high(op, x, y int) {
	switch {
	case w.moves(op), w.jumps(op, x):
	case y == 6:
		w.reckon(x, w.byteBehind())
	case y == 7:
		w.push(w.pc)
		w.pc = 8 * x
	case op == 0xf3:
		w.ime, w.arm = false, false
	case op == 0xfb:
		w.arm = true
	default:
		w.mode = api.ModeLock
	}
}

// moves are the last quarter's that move bytes and words; false: it is none.
func (w *whole) moves(op int) bool {
	switch op {
	case 0xe0:
		w.write(0xff00+w.byteBehind(), w.b[ra])
	case 0xf0:
		w.b[ra] = w.read(0xff00 + w.byteBehind())
	case 0xe2:
		w.write(0xff00+w.b[1], w.b[ra])
	case 0xf2:
		w.b[ra] = w.read(0xff00 + w.b[1])
	case 0xea:
		w.write(w.wordBehind(), w.b[ra])
	case 0xfa:
		w.b[ra] = w.read(w.wordBehind())
	case 0xe8:
		w.sp = w.spAnd()
		w.rest()
		w.rest()
	case 0xf8:
		w.setPair(2, w.spAnd())
		w.rest()
	case 0xf9:
		w.sp = w.pair(2)
		w.rest()
	case 0xc1, 0xd1, 0xe1:
		w.setPair(op/16-12, w.pop())
	case 0xf1:
		v := w.pop()
		w.b[ra] = v / 256
		w.z, w.n, w.h, w.c = v/128%2 == 1, v/64%2 == 1, v/32%2 == 1, v/16%2 == 1
	case 0xc5, 0xd5, 0xe5:
		w.push(w.pair(op/16 - 12))
	case 0xf5:
		r := w.regs()
		w.push(int(r.A)*256 + int(r.F))
	default:
		return false
	}
	return true
}

// jumps are the last quarter's that move PC, but for restarts.
func (w *whole) jumps(op, x int) bool {
	taken := op%2 == 1 || x < 4 && w.holds(x)
	switch op {
	case 0xc0, 0xc8, 0xd0, 0xd8, 0xc9, 0xd9:
		if op%2 == 0 {
			w.rest()
		}
		if taken {
			w.pc = w.pop()
			w.rest()
		}
		w.ime = w.ime || op == 0xd9
	case 0xc2, 0xca, 0xd2, 0xda, 0xc3:
		to := w.wordBehind()
		if taken {
			w.rest()
			w.pc = to
		}
	case 0xc4, 0xcc, 0xd4, 0xdc, 0xcd:
		to := w.wordBehind()
		if taken {
			w.push(w.pc)
			w.pc = to
		}
	case 0xe9:
		w.pc = w.pair(2)
	default:
		return false
	}
	return true
}
