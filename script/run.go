package script

import (
	"strconv"

	"whirligig/api"
	"whirligig/machine"
	"whirligig/regs"
	"whirligig/scan"
	"whirligig/solo"
	"whirligig/word"
)

// follower is a machine that follows a script, and what it has printed.
type follower struct {
	machine *machine.Machine
	outer   api.Input // what is held, and the bit; no edge, no tick
	traced  bool
	printed []string
}

// Run follows a script.
func Run(image []byte, s string) ([]string, api.Errno) {
	m, e := machine.New(image)
	if e != api.OK {
		return nil, e
	}
	l, _, e := Parse(s)
	if e != api.OK {
		return nil, e
	}
	f := follower{machine: m}
	for _, o := range l {
		f.follow(o)
	}
	return f.printed, api.OK
}

// follow does what an order says.
func (f *follower) follow(o api.Order) {
	switch o.Kind {
	case api.OrderRun:
		for range o.N {
			f.cycle(f.outer)
		}
	case api.OrderKeys:
		f.outer.Keys = uint8(o.N)
	case api.OrderBit:
		f.outer.Bit = o.N != 0
	case api.OrderEdge:
		in := f.outer
		in.Clock = true
		f.cycle(in)
	case api.OrderTick:
		in := f.outer
		in.Tick = true
		f.cycle(in)
	case api.OrderTrace:
		f.traced = o.N != 0
	default:
		f.print(f.answer(o))
	}
}

// print prints a line.
func (f *follower) print(line string) {
	f.printed = append(f.printed, line)
}

// cycle is a cycle of the machine.
func (f *follower) cycle(in api.Input) {
	entry := f.machine.Step(in)
	if f.traced {
		f.print(traceOf(entry))
	}
}

// answer is what an order asks for that asks the machine.
func (f *follower) answer(o api.Order) string {
	switch o.Kind {
	case api.OrderRegs:
		return f.registers()
	case api.OrderPeek:
		at := uint16(o.N)
		return word.Hex16(at) + "=" + word.Hex8(f.machine.Peek(at))
	case api.OrderFrame:
		return "frame " + strconv.Itoa(f.machine.Frames())
	case api.OrderLine:
		return "line " + strconv.Itoa(o.N) + " " + f.shades(o.N)
	}
	return f.saved()
}

// registers writes the processor's registers, and the interrupts.
func (f *follower) registers() string {
	ints := f.machine.Ints()
	return regs.Text(f.machine.Cpu().R) + " IF=" + word.Hex8(ints.If) + " IE=" + word.Hex8(ints.Ie)
}

// shades writes a line of the last frame.
func (f *follower) shades(y int) string {
	frame := f.machine.Frame()
	if len(frame) == 0 {
		return "none"
	}
	return scan.Text(frame[y*api.Width:][:api.Width])
}

// saved writes how much the battery keeps, and its sum.
func (f *follower) saved() string {
	b := f.machine.Save()
	var sum uint8
	for _, v := range b {
		sum += v
	}
	return "save " + strconv.Itoa(len(b)) + " " + word.Hex8(sum)
}

// traceOf writes what a cycle left behind.
func traceOf(entry api.Entry) string {
	line := solo.Line(entry.Act)
	switch entry.Mark {
	case api.MarkFetch:
		line += " *"
	case api.MarkCall:
		line += " !"
	}
	if entry.Dma {
		line += " <" + word.Hex16(entry.Src)
	}
	return line
}
