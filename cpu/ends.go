package cpu

import (
	"whirligig/alu"
	"whirligig/api"
	"whirligig/regs"
	"whirligig/shift"
	"whirligig/word"
)

// atHL is the register's number that stands for the byte at HL.
const atHL = 6

// rstStep is how far the places of restarts are from one another.
const rstStep = 8

// operand is a register, or the byte that was read in its stead.
func (c *core) operand(n int) uint8 {
	if n == atHL {
		return c.Lo
	}
	v, _ := regs.Get(c.R, n)
	return v
}

// put sets a register; what stands at HL was written on the bus, if at all.
func (c *core) put(n int, v uint8) {
	if r, e := regs.Put(c.R, n, v); e == api.OK {
		c.R = r
	}
}

// putPair sets a pair.
func (c *core) putPair(n int, w uint16) {
	if r, e := regs.PutPair(c.R, n, w); e == api.OK {
		c.R = r
	}
}

// putFlags sets F.
func (c *core) putFlags(f api.Flags) {
	c.R = regs.WithFlags(c.R, f)
}

// putA sets A and F.
func (c *core) putA(a uint8, f api.Flags) {
	c.R.A = a
	c.putFlags(f)
}

// ends is what the instruction comes to when its cycles are over.
func (c *core) ends(pending uint8) {
	f := c.form()
	c.Step, c.Cb = 0, false
	c.loads(f)
	c.reckons(f)
	c.reckonsWords(f)
	c.changes(f)
	c.jumps(f)
	c.switches(f, pending)
}

// loads is the end of what moves bytes and words.
func (c *core) loads(f api.Form) {
	switch f.Kind {
	case api.KLoad:
		c.put(f.X, c.operand(f.Y))
	case api.KLoadN:
		c.put(f.X, c.Lo)
	case api.KLoadA, api.KLoadHigh, api.KLoadPort, api.KLoadFar:
		c.R.A = c.Lo
	case api.KLoad16, api.KPop:
		c.putPair(f.X, c.far())
	case api.KLoadSP:
		c.R.SP = c.pair(pairHL)
	}
}

// reckons is the end of what is reckoned with A.
func (c *core) reckons(f api.Form) {
	flags := regs.Flags(c.R)
	switch f.Kind {
	case api.KAlu:
		c.putA(alu.Do(f.X, c.R.A, c.operand(f.Y), flags))
	case api.KAluN:
		c.putA(alu.Do(f.X, c.R.A, c.Lo, flags))
	case api.KFast:
		c.putA(shift.Fast(f.X, c.R.A, flags))
	case api.KDaa:
		c.putA(alu.Daa(c.R.A, flags))
	case api.KCpl:
		c.putA(alu.Cpl(c.R.A, flags))
	case api.KScf:
		c.putFlags(alu.Scf(flags))
	case api.KCcf:
		c.putFlags(alu.Ccf(flags))
	}
}

// reckonsWords is the end of what is reckoned with pairs and SP.
func (c *core) reckonsWords(f api.Form) {
	switch f.Kind {
	case api.KInc16:
		c.putPair(f.X, c.pair(f.X)+1)
	case api.KDec16:
		c.putPair(f.X, c.pair(f.X)-1)
	case api.KAddHL:
		sum, flags := alu.AddWords(c.pair(pairHL), c.pair(f.X), regs.Flags(c.R))
		c.putPair(pairHL, sum)
		c.putFlags(flags)
	case api.KLoadHL:
		sum, flags := alu.AddSigned(c.R.SP, c.Lo)
		c.putPair(pairHL, sum)
		c.putFlags(flags)
	case api.KAddSP:
		sum, flags := alu.AddSigned(c.R.SP, c.Lo)
		c.R.SP = sum
		c.putFlags(flags)
	}
}

// changes is the end of what works on any one byte.
func (c *core) changes(f api.Form) {
	switch f.Kind {
	case api.KInc, api.KDec:
		v, flags := c.changed(f, c.operand(f.X))
		c.put(f.X, v)
		c.putFlags(flags)
	case api.KShift:
		v, flags := c.changed(f, c.operand(f.Y))
		c.put(f.Y, v)
		c.putFlags(flags)
	case api.KRes, api.KSet:
		v, _ := c.changed(f, c.operand(f.Y))
		c.put(f.Y, v)
	case api.KBit:
		c.putFlags(shift.Test(f.X, c.operand(f.Y), regs.Flags(c.R)))
	}
}

// jumps is the end of what moves PC.
func (c *core) jumps(f api.Form) {
	switch f.Kind {
	case api.KJr:
		if regs.Holds(c.R, f.X) {
			c.R.PC += uint16(word.Signed(c.Lo))
		}
	case api.KJp, api.KCall, api.KRet:
		if regs.Holds(c.R, f.X) {
			c.R.PC = c.far()
		}
	case api.KReti:
		c.R.PC, c.Ime = c.far(), true
	case api.KJpHL:
		c.R.PC = c.pair(pairHL)
	case api.KRst:
		c.R.PC = uint16(rstStep * f.X)
	}
}

// switches is the end of what turns interrupts and modes.
func (c *core) switches(f api.Form, pending uint8) {
	switch f.Kind {
	case api.KDi:
		c.Ime, c.Arm = false, false
	case api.KEi:
		c.Arm = true
	case api.KHalt:
		// What is pending can't be called, and would wake it at once: it
		// doesn't halt, but stumbles over the next fetch.
		if !c.Ime && waiting(pending) {
			c.Bug = true
		} else {
			c.Mode = api.ModeHalt
		}
	case api.KStop:
		c.Mode = api.ModeStop
	case api.KIllegal:
		c.Mode = api.ModeLock
	}
}
