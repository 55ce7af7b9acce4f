package machine

import (
	"whirligig/api"
	"whirligig/bus"
	"whirligig/cpu"
	"whirligig/dma"
	"whirligig/irq"
	"whirligig/lcd"
	"whirligig/objects"
	"whirligig/pad"
	"whirligig/scan"
	"whirligig/serial"
	"whirligig/timer"
)

// dotsCycle are the dots of the picture in a cycle.
const dotsCycle = 4

// The bits of Ctl that the machine itself asks; the others play their part in
// the lines' records.
const (
	ctlObjects = 1 << 1
	ctlTall    = 1 << 2
	ctlOn      = 1 << 7
)

// move is what the transfer does in a cycle. Where it isn't on, no byte is
// copied, and all else is 0.
type move struct {
	on   bool
	from uint16
	to   uint8
	data uint8
}

// want is what the processor wants of the bus; the interrupt that it takes is
// taken.
func (m *Machine) want() api.Act {
	wanted, act, taken := cpu.Want(m.cpu, irq.Pending(m.ints))
	m.cpu = wanted
	m.ints = irq.Take(m.ints, taken)
	return act
}

// markOf is what begins in a cycle, by the processor that wants that act. A
// fetch behind the prefix begins nothing: its Step isn't 0.
func markOf(c api.Cpu, a api.Act) int {
	switch {
	case c.Step != 0:
		return api.MarkNone
	case c.Mode == api.ModeCall:
		return api.MarkCall
	case a.Kind == api.ActFetch:
		return api.MarkFetch
	}
	return api.MarkNone
}

// copies is what the transfer copies in this cycle. The transfer stays as it
// is: what the processor may write to it comes ahead of its step.
func (m *Machine) copies() move {
	_, from, to, on := dma.Step(m.dma)
	if !on {
		return move{}
	}
	return move{on: true, from: from, to: to, data: m.read(from)}
}

// do does an act, and tells it with what came of it, and the byte that was read.
func (m *Machine) do(a api.Act, moved move) (api.Act, uint8) {
	switch a.Kind {
	case api.ActFetch, api.ActRead:
		a.Data = m.reads(a.Addr, moved)
		return a, a.Data
	case api.ActWrite:
		m.writes(a.Addr, a.Data, moved)
	}
	return a, 0
}

// reads is what the processor reads, while others are on the bus.
func (m *Machine) reads(addr uint16, moved move) uint8 {
	switch {
	case bus.Meets(addr, moved.from, moved.on):
		return moved.data
	case m.shut(addr, moved):
		return nothing
	}
	return m.read(addr)
}

// writes writes what the processor writes, while others are on the bus.
func (m *Machine) writes(addr uint16, v uint8, moved move) {
	if !bus.Meets(addr, moved.from, moved.on) && !m.shut(addr, moved) {
		m.write(addr, v)
	}
}

// shut tells whether the processor is kept away from a place.
func (m *Machine) shut(addr uint16, moved move) bool {
	vram, oam := lcd.Locks(m.place)
	return bus.Shut(addr, vram, oam, moved.on)
}

// ask asks for an interrupt, if its source says so.
func (m *Machine) ask(n int, so bool) {
	if so {
		m.ints = irq.Ask(m.ints, n)
	}
}

// lay lays the byte that is copied into the objects, and the transfer goes on.
func (m *Machine) lay(moved move) {
	if moved.on {
		m.memory.Object(moved.to, moved.data)
	}
	m.dma, _, _, _ = dma.Step(m.dma)
}

// count is the timer's cycle.
func (m *Machine) count() {
	counted, asks := timer.Step(m.timer)
	m.timer = counted
	m.ask(api.IntTimer, asks)
}

// exchange is the port's cycle; the bit that it sends is told.
func (m *Machine) exchange(in api.Input) bool {
	port, out, asks := serial.Step(m.port, in.Bit, in.Clock)
	m.port = port
	m.ask(api.IntSerial, asks)
	return out
}

// look is the keys' cycle.
func (m *Machine) look() {
	seen, asks := pad.Step(m.pad, m.held)
	m.pad = seen
	m.ask(api.IntPad, asks)
}

// dots is the picture's cycle.
func (m *Machine) dots() {
	for range dotsCycle {
		m.dot()
	}
}

// dot is a dot of the picture.
func (m *Machine) dot() {
	place, event := lcd.Step(m.place, m.extra())
	m.place = place
	if event.Draw {
		m.draw()
	}
	if event.Frame {
		m.finish()
	}
	m.ask(api.IntFrame, event.Frame)
	m.ask(api.IntLcd, event.Lcd)
}

// extra is by how many dots the line would be longer, were it drawn from the
// next dot on. At all other dots nobody asks for it, and it isn't reckoned.
func (m *Machine) extra() uint16 {
	if m.place.Dot != api.DotsScan-1 {
		return 0
	}
	return uint16(objects.Extra(m.onLine(), m.video.Scx))
}

// onLine are the objects of the picture's line.
func (m *Machine) onLine() []api.Obj {
	if m.video.Ctl&ctlObjects == 0 {
		return nil
	}
	return objects.Scan(m.memory.Oam(), int(m.place.Line), m.video.Ctl&ctlTall != 0)
}

// draw keeps what the picture's line is drawn from.
func (m *Machine) draw() {
	record := m.video
	record.Vram, record.Oam = m.memory.Vram(), m.memory.Oam()
	m.records[m.place.Line] = record
}

// finish makes a frame of the records. It can't wait till somebody asks for it:
// the next frame's lines take their stead.
func (m *Machine) finish() {
	m.frames++
	m.frame = scan.Frame(m.records[:])
}
