package machine

import (
	"whirligig/api"
	"whirligig/bus"
	"whirligig/dma"
	"whirligig/irq"
	"whirligig/lcd"
	"whirligig/pad"
	"whirligig/serial"
	"whirligig/timer"
)

// The places of the registers.
const (
	atPad     = 0xFF00
	atData    = 0xFF01 // the port's byte
	atControl = 0xFF02 // what the port does
	atDiv     = 0xFF04
	atTima    = 0xFF05
	atTma     = 0xFF06
	atTac     = 0xFF07
	atIf      = 0xFF0F
	atCtl     = 0xFF40
	atStat    = 0xFF41
	atScy     = 0xFF42
	atScx     = 0xFF43
	atLine    = 0xFF44
	atLyc     = 0xFF45
	atDma     = 0xFF46
	atBgp     = 0xFF47
	atObp0    = 0xFF48
	atObp1    = 0xFF49
	atWy      = 0xFF4A
	atWx      = 0xFF4B
)

// nothing is what is read where no byte stands.
const nothing = 255

// read asks a place, whoever is kept away from it.
func (m *Machine) read(addr uint16) uint8 {
	region, _ := bus.Region(addr)
	switch region {
	case api.RegRom, api.RegRam:
		return m.cart.Read(addr)
	case api.RegVram, api.RegWram, api.RegOam, api.RegHram:
		return m.memory.Get(addr)
	case api.RegIo:
		return m.readIo(addr)
	case api.RegIe:
		return irq.Read(m.ints, addr)
	}
	return nothing
}

// write tells a place something, whoever is kept away from it.
func (m *Machine) write(addr uint16, v uint8) {
	region, _ := bus.Region(addr)
	switch region {
	case api.RegRom, api.RegRam:
		m.cart.Write(addr, v)
	case api.RegVram, api.RegWram, api.RegOam, api.RegHram:
		m.memory.Put(addr, v)
	case api.RegIo:
		m.writeIo(addr, v)
	case api.RegIe:
		m.ints = irq.Write(m.ints, addr, v)
	}
}

// readIo asks a register.
func (m *Machine) readIo(addr uint16) uint8 {
	switch addr {
	case atPad:
		return pad.Read(m.pad, m.held)
	case atData, atControl:
		return serial.Read(m.port, addr)
	case atDiv, atTima, atTma, atTac:
		return timer.Read(m.timer, addr)
	case atIf:
		return irq.Read(m.ints, addr)
	case atStat, atLine, atLyc:
		return lcd.Read(m.place, addr)
	case atDma:
		return dma.Read(m.dma)
	}
	if r := m.register(addr); r != nil {
		return *r
	}
	return nothing
}

// writeIo tells a register something.
func (m *Machine) writeIo(addr uint16, v uint8) {
	switch addr {
	case atPad:
		m.pad = pad.Write(m.pad, v)
	case atData, atControl:
		m.port = serial.Write(m.port, addr, v)
	case atDiv, atTima, atTma, atTac:
		m.timer = timer.Write(m.timer, addr, v)
	case atIf:
		m.ints = irq.Write(m.ints, addr, v)
	case atStat, atLine, atLyc:
		place, rises := lcd.Write(m.place, addr, v)
		m.place = place
		m.ask(api.IntLcd, rises)
	case atDma:
		m.dma = dma.Write(m.dma, v)
	}
	if r := m.register(addr); r != nil {
		*r = v
	}
	if addr == atCtl {
		m.power(v&ctlOn != 0)
	}
}

// register is the register of the picture's that just holds what was written
// to it, nil if none stands there.
func (m *Machine) register(addr uint16) *uint8 {
	switch addr {
	case atCtl:
		return &m.video.Ctl
	case atScy:
		return &m.video.Scy
	case atScx:
		return &m.video.Scx
	case atBgp:
		return &m.video.Bgp
	case atObp0:
		return &m.video.Obp0
	case atObp1:
		return &m.video.Obp1
	case atWy:
		return &m.video.Wy
	case atWx:
		return &m.video.Wx
	}
	return nil
}

// power switches the picture on, or off. While it is off there are no records,
// so that no frame is ever made of lines from ahead of that.
func (m *Machine) power(on bool) {
	place, rises := lcd.Power(m.place, on)
	m.place = place
	m.ask(api.IntLcd, rises)
	if !on {
		m.records = [api.LinesSeen]api.Video{}
	}
}
