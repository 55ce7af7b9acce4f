package cpu

import (
	"whirligig/alu"
	"whirligig/api"
	"whirligig/regs"
	"whirligig/shift"
	"whirligig/word"
)

// page is the high byte of the places that a single byte names.
const page = 255

// The pairs' numbers, as far as the layer asks for them by name.
const (
	pairBC = 0
	pairDE = 1
	pairHL = 2
)

// pair is a pair of registers, or SP.
func (c *core) pair(n int) uint16 {
	w, _ := regs.Pair(c.R, n)
	return w
}

// far is the word of the two bytes that the instruction has.
func (c *core) far() uint16 {
	return word.Join(c.Hi, c.Lo)
}

// place is where a cycle of a plan is on the bus.
func (c *core) place(at int) uint16 {
	switch at {
	case api.AtPC:
		return c.R.PC
	case api.AtHL, api.AtUp, api.AtDown:
		return c.pair(pairHL)
	case api.AtBC:
		return c.pair(pairBC)
	case api.AtDE:
		return c.pair(pairDE)
	case api.AtHigh:
		return word.Join(page, c.Lo)
	case api.AtPort:
		return word.Join(page, c.R.C)
	case api.AtFar:
		return c.far()
	case api.AtNext:
		return c.far() + 1
	case api.AtPush:
		return c.R.SP - 1
	case api.AtPop:
		return c.R.SP
	}
	return 0
}

// moves is what a cycle does to the register that tells its place.
func (c *core) moves(at int) {
	switch at {
	case api.AtPC:
		c.R.PC++
	case api.AtUp:
		c.putPair(pairHL, c.pair(pairHL)+1)
	case api.AtDown:
		c.putPair(pairHL, c.pair(pairHL)-1)
	case api.AtPush:
		c.R.SP--
	case api.AtPop:
		c.R.SP++
	}
}

// takes keeps a byte that was read.
func (c *core) takes(value int, data uint8) {
	switch value {
	case api.ValLo:
		c.Lo = data
	case api.ValHi:
		c.Hi = data
	}
}

// value is what a cycle of a plan writes.
func (c *core) value(of int) uint8 {
	f := c.form()
	switch of {
	case api.ValLo:
		return c.Lo
	case api.ValA:
		return c.R.A
	case api.ValReg:
		return c.operand(f.Y)
	case api.ValSPLo, api.ValSPHi:
		return half(c.R.SP, of == api.ValSPHi)
	case api.ValPCLo, api.ValPCHi:
		return half(c.R.PC, of == api.ValPCHi)
	case api.ValTop, api.ValLow:
		return half(c.pair(f.X), of == api.ValTop)
	case api.ValDone:
		v, _ := c.changed(f, c.Lo)
		return v
	}
	return 0
}

// half is the high or the low byte of a word.
func half(w uint16, high bool) uint8 {
	hi, lo := word.Split(w)
	if high {
		return hi
	}
	return lo
}

// changed is what an operation on one byte comes to, with its flags. It serves
// both what is written at HL and what goes to a register, so that they agree.
func (c *core) changed(f api.Form, v uint8) (uint8, api.Flags) {
	flags := regs.Flags(c.R)
	switch f.Kind {
	case api.KInc:
		return alu.Inc(v, flags)
	case api.KDec:
		return alu.Dec(v, flags)
	case api.KShift:
		return shift.Do(f.X, v, flags)
	case api.KRes:
		return shift.Res(f.X, v), flags
	case api.KSet:
		return shift.Set(f.X, v), flags
	}
	return v, flags
}
