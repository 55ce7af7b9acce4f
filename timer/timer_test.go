package timer

import (
	"math/rand"
	"testing"

	"whirligig/api"
)

// The registers' places.
const (
	div  = 0xFF04
	tima = 0xFF05
	tma  = 0xFF06
	tac  = 0xFF07
)

// bytesOf are some that a register may hold, with the edges of counting.
var bytesOf = []uint8{0, 1, 2, 7, 127, 128, 200, 254, 255}

// states are the three, and numbers that are none.
var states = []uint8{0, 1, 2, 3, 4, 5, 127, 128, 254, 255}

// tacs are all of three bits, and some with bits beyond them.
var tacs = []uint8{0, 1, 2, 3, 4, 5, 6, 7, 8, 13, 16, 123, 128, 133, 248, 252, 255}

// divs are the places at which a line's bit rises or falls by a cycle, with
// those beside them that no count of cycles from 0 on comes to.
func divs() []uint16 {
	var list []uint16
	for _, at := range []int{0, 8, 16, 32, 64, 128, 256, 384, 512, 768, 1024, 2048, 32768, 43980, 65024, 65536} {
		for by := -6; by <= 6; by++ {
			list = append(list, uint16(at+by))
		}
	}
	return list
}

// every calls f with timers of all edges.
func every(f func(api.Timer)) {
	for _, d := range divs() {
		for _, control := range tacs {
			for _, state := range states {
				for _, count := range bytesOf {
					for _, load := range []uint8{0, 9, 255} {
						f(api.Timer{Div: d, Tima: count, Tma: load, Tac: control, State: state})
					}
				}
			}
		}
	}
}

// anyTimer is a timer by chance, whose numbers are often edges.
func anyTimer(r *rand.Rand) api.Timer {
	x := api.Timer{Div: uint16(r.Intn(65536)), Tima: uint8(r.Intn(256)), Tma: uint8(r.Intn(256)), Tac: uint8(r.Intn(256)), State: uint8(r.Intn(3))}
	if r.Intn(3) == 0 {
		x.Tima = 255
	}
	if r.Intn(3) == 0 {
		x.Tma = 255
	}
	if r.Intn(8) == 0 {
		x.State = uint8(r.Intn(256))
	}
	return x
}

// line is the chapter's word for it, reckoned with worths instead of bits.
func line(x api.Timer) int {
	if int(x.Tac)%8 < 4 {
		return 0
	}
	worth := 0
	switch int(x.Tac) % 4 {
	case 0:
		worth = 512
	case 1:
		worth = 8
	case 2:
		worth = 32
	case 3:
		worth = 128
	}
	return int(x.Div) / worth % 2
}

// fallen is what a timer is behind a change, counted where its line fell.
func fallen(was, now api.Timer) api.Timer {
	if line(was) == 1 && line(now) == 0 {
		if now.Tima == 255 {
			now.Tima, now.State = 0, 1
		} else {
			now.Tima++
		}
	}
	return now
}

// stepped is what Step must answer.
func stepped(x api.Timer) (api.Timer, bool) {
	asked := false
	if x.State == 1 {
		x.Tima, x.State, asked = x.Tma, 2, true
	} else {
		x.State = 0
	}
	now := x
	now.Div = uint16((int(x.Div) + 4) % 65536)
	return fallen(x, now), asked
}

// written is what Write must answer.
func written(x api.Timer, addr uint16, v uint8) api.Timer {
	now := x
	switch {
	case addr == 0xFF04:
		now.Div = 0
		return fallen(x, now)
	case addr == 0xFF05 && x.State == 1:
		now.Tima, now.State = v, 0
	case addr == 0xFF05 && x.State != 2:
		now.Tima = v
	case addr == 0xFF06 && x.State == 2:
		now.Tma, now.Tima = v, v
	case addr == 0xFF06:
		now.Tma = v
	case addr == 0xFF07:
		now.Tac = v % 8
		return fallen(x, now)
	}
	return now
}

// wantStep fails if a cycle does another thing.
func wantStep(t *testing.T, x api.Timer) {
	t.Helper()
	want, ask := stepped(x)
	if got, asked := Step(x); got != want || asked != ask {
		t.Fatalf("Step(%+v): %+v, %v, not %+v, %v", x, got, asked, want, ask)
	}
}

// wantWritten fails if a write does another thing.
func wantWritten(t *testing.T, x api.Timer, addr uint16, v uint8) {
	t.Helper()
	if got, want := Write(x, addr, v), written(x, addr, v); got != want {
		t.Fatalf("%d to %04X of %+v: %+v, not %+v", v, addr, x, got, want)
	}
}

// P11.1: each Div with each Tac.
func TestHot(t *testing.T) {
	for d := range 65536 {
		for control := range 256 {
			x := api.Timer{Div: uint16(d), Tac: uint8(control)}
			if Hot(x) != (line(x) == 1) {
				t.Fatalf("Hot(%+v): %v", x, Hot(x))
			}
		}
	}
}

// P11.1: the chosen bit alone, and all but it.
func TestHotByHand(t *testing.T) {
	for choice, bit := range []int{9, 3, 5, 7} {
		open, shut := uint8(4+choice), uint8(choice)
		alone := uint16(1) << bit
		for _, high := range []uint8{0, 8, 240, 248} {
			if !Hot(api.Timer{Div: alone, Tac: open | high}) || Hot(api.Timer{Div: ^alone, Tac: open | high}) {
				t.Errorf("Tac %d: not bit %d", open|high, bit)
			}
			if Hot(api.Timer{Div: alone, Tac: shut | high}) || Hot(api.Timer{Div: 65535, Tac: shut | high}) {
				t.Errorf("Tac %d lets the line through", shut|high)
			}
		}
	}
}

// P11.1: nothing but Div and Tac plays a part in the line.
func TestHotOfAll(t *testing.T) {
	every(func(x api.Timer) {
		if Hot(x) != (line(x) == 1) {
			t.Fatalf("Hot(%+v): %v", x, Hot(x))
		}
	})
}

// P11.1: the edges of all fields together.
func TestStep(t *testing.T) {
	every(func(x api.Timer) { wantStep(t, x) })
}

// P11.1: each Div, with each Tac of three bits, in each state.
func TestStepOfEachDiv(t *testing.T) {
	for d := range 65536 {
		for control := range 8 {
			for state := range 4 {
				for _, count := range []uint8{3, 255} {
					wantStep(t, api.Timer{Div: uint16(d), Tima: count, Tma: 255, Tac: uint8(control), State: uint8(state)})
				}
			}
		}
	}
}

// P11.1: each Tima with each Tma, where the line falls and where it doesn't.
func TestStepOfEachByte(t *testing.T) {
	for count := range 256 {
		for load := range 256 {
			for state := range 4 {
				for _, d := range []uint16{8, 12} {
					wantStep(t, api.Timer{Div: d, Tima: uint8(count), Tma: uint8(load), Tac: 5, State: uint8(state)})
				}
			}
		}
	}
}

// P11.1, R5: each State; one above 2 counts as TimerRuns.
func TestStepOfEachState(t *testing.T) {
	for state := range 256 {
		got, asked := Step(api.Timer{Div: 3, Tima: 77, Tma: 9, Tac: 251, State: uint8(state)})
		want := api.Timer{Div: 7, Tima: 77, Tma: 9, Tac: 251}
		if state == api.TimerWaits {
			want.Tima, want.State = 9, api.TimerLoads
		}
		if got != want || asked != (state == api.TimerWaits) {
			t.Errorf("State %d: %+v, %v", state, got, asked)
		}
	}
}

// P11.1: written out.
func TestStepByHand(t *testing.T) {
	for _, w := range []struct {
		from, want api.Timer
		asked      bool
	}{
		// The examples of the chapter and of the whole.
		{api.Timer{Tac: 5, Div: 12, Tima: 255, Tma: 9}, api.Timer{Tac: 5, Div: 16, Tma: 9, State: api.TimerWaits}, false},
		{api.Timer{Tac: 5, Div: 16, Tma: 9, State: api.TimerWaits}, api.Timer{Tac: 5, Div: 20, Tima: 9, Tma: 9, State: api.TimerLoads}, true},
		{api.Timer{Tac: 5, Div: 20, Tima: 9, Tma: 9, State: api.TimerLoads}, api.Timer{Tac: 5, Div: 24, Tima: 9, Tma: 9}, false},
		// A line that rises, stays 1, or is shut doesn't fall.
		{api.Timer{Tac: 5, Div: 4, Tima: 255}, api.Timer{Tac: 5, Div: 8, Tima: 255}, false},
		{api.Timer{Tac: 5, Div: 8, Tima: 255}, api.Timer{Tac: 5, Div: 12, Tima: 255}, false},
		{api.Timer{Tac: 1, Div: 12, Tima: 255}, api.Timer{Tac: 1, Div: 16, Tima: 255}, false},
		// Div runs over, and all lines fall by that.
		{api.Timer{Tac: 4, Div: 65532, Tima: 1}, api.Timer{Tac: 4, Tima: 2}, false},
		{api.Timer{Tac: 5, Div: 65535, Tima: 1}, api.Timer{Tac: 5, Div: 3, Tima: 2}, false},
		{api.Timer{Tac: 6, Div: 65533, Tima: 1}, api.Timer{Tac: 6, Div: 1, Tima: 2}, false},
		{api.Timer{Tac: 7, Div: 65534, Tima: 255}, api.Timer{Tac: 7, Div: 2, State: api.TimerWaits}, false},
		// What is loaded in a cycle is counted in it, and may overflow.
		{api.Timer{Tac: 5, Div: 12, Tma: 9, State: api.TimerWaits}, api.Timer{Tac: 5, Div: 16, Tima: 10, Tma: 9, State: api.TimerLoads}, true},
		{api.Timer{Tac: 5, Div: 12, Tma: 255, State: api.TimerWaits}, api.Timer{Tac: 5, Div: 16, Tma: 255, State: api.TimerWaits}, true},
		{api.Timer{Tac: 5, Div: 12, Tima: 255, Tma: 4, State: api.TimerLoads}, api.Timer{Tac: 5, Div: 16, Tma: 4, State: api.TimerWaits}, false},
		// A Tima of 0 alone, or a load of 0, is no overflow.
		{api.Timer{Tac: 5, Div: 16}, api.Timer{Tac: 5, Div: 20}, false},
		{api.Timer{Tac: 5, Div: 16, Tima: 3, State: api.TimerWaits}, api.Timer{Tac: 5, Div: 20, State: api.TimerLoads}, true},
		// A state that is none counts as TimerRuns, and Tac stays as it is.
		{api.Timer{Tac: 253, Div: 12, Tima: 7, Tma: 9, State: 3}, api.Timer{Tac: 253, Div: 16, Tima: 8, Tma: 9}, false},
		{api.Timer{Tac: 249, Div: 12, Tima: 7, Tma: 9, State: 255}, api.Timer{Tac: 249, Div: 16, Tima: 7, Tma: 9}, false},
	} {
		if got, asked := Step(w.from); got != w.want || asked != w.asked {
			t.Errorf("Step(%+v): %+v, %v, not %+v, %v", w.from, got, asked, w.want, w.asked)
		}
	}
}

// P11.2: each place; where no register stands 255 is read.
func TestRead(t *testing.T) {
	for _, x := range []api.Timer{{}, {Div: 0x1234, Tima: 0x56, Tma: 0x78, Tac: 3, State: 2}, {Div: 0xABCC, Tima: 1, Tma: 2, Tac: 252, State: 1}} {
		registers := map[int]uint8{div: uint8(x.Div / 256), tima: x.Tima, tma: x.Tma, tac: 248 + x.Tac%8}
		for addr := range 65536 {
			want, there := registers[addr]
			if !there {
				want = 255
			}
			if got := Read(x, uint16(addr)); got != want {
				t.Fatalf("Read(%+v, %04X): %d, not %d", x, addr, got, want)
			}
		}
	}
}

// P11.2: each byte of each register, and Div's low one, which isn't seen.
func TestReadOfEachByte(t *testing.T) {
	for v := range 256 {
		b := uint8(v)
		for _, low := range []uint16{0, 1, 128, 255} {
			if got := Read(api.Timer{Div: uint16(256*v) + low}, div); got != b {
				t.Errorf("Div %d: %d", 256*v+int(low), got)
			}
		}
		for _, state := range states {
			if got := Read(api.Timer{Tima: b, Tma: 3, State: state}, tima); got != b {
				t.Errorf("Tima %d, State %d: %d", v, state, got)
			}
			if got := Read(api.Timer{Tima: 3, Tma: b, State: state}, tma); got != b {
				t.Errorf("Tma %d, State %d: %d", v, state, got)
			}
		}
		if got := Read(api.Timer{Tac: b}, tac); int(got) != 248+v%8 {
			t.Errorf("Tac %d: %d", v, got)
		}
	}
}

// P11.3: the edges of all fields together.
func TestWrite(t *testing.T) {
	every(func(x api.Timer) {
		for addr := uint16(0xFF03); addr <= 0xFF08; addr++ {
			wantWritten(t, x, addr, 6)
		}
	})
}

// P11.3: each place that is none leaves all as it is, whatever is written.
func TestWriteNowhere(t *testing.T) {
	r := rand.New(rand.NewSource(113))
	for addr := range 65536 {
		if div <= addr && addr <= tac {
			continue
		}
		for _, x := range []api.Timer{{}, {Div: 65535, Tima: 255, Tma: 255, Tac: 255, State: 255}, anyTimer(r)} {
			v := uint8(r.Intn(256))
			if got := Write(x, uint16(addr), v); got != x {
				t.Fatalf("%d to %04X of %+v: %+v", v, addr, x, got)
			}
		}
	}
}

// P11.3: each Div with each Tac; the byte that is written plays no part.
func TestWriteDiv(t *testing.T) {
	for d := range 65536 {
		for control := range 8 {
			for _, count := range []uint8{3, 255} {
				wantWritten(t, api.Timer{Div: uint16(d), Tima: count, Tma: 9, Tac: uint8(control), State: uint8(d % 3)}, div, uint8(d/3))
			}
		}
	}
	for v := range 256 {
		if got := Write(api.Timer{Tac: 5, Div: 8, Tima: 3}, div, uint8(v)); got != (api.Timer{Tac: 5, Tima: 4}) {
			t.Errorf("%d: %+v", v, got)
		}
	}
}

// P11.3: each byte in each state, of Tima and Tma.
func TestWriteBytes(t *testing.T) {
	for v := range 256 {
		for state := range 256 {
			for _, d := range []uint16{12, 16, 65535} {
				x := api.Timer{Div: d, Tima: 55, Tma: 66, Tac: 253, State: uint8(state)}
				wantWritten(t, x, tima, uint8(v))
				wantWritten(t, x, tma, uint8(v))
			}
		}
	}
}

// P11.3: each Tac that was, each byte that is written, each bit of Div.
func TestWriteTac(t *testing.T) {
	for was := range 256 {
		for v := range 256 {
			for bit := range 16 {
				alone := uint16(1) << bit
				wantWritten(t, api.Timer{Div: alone, Tima: 255, Tma: 9, Tac: uint8(was), State: 2}, tac, uint8(v))
				wantWritten(t, api.Timer{Div: ^alone, Tima: 254, Tma: 9, Tac: uint8(was), State: 7}, tac, uint8(v))
			}
		}
	}
}

// P11.3: written out.
func TestWriteByHand(t *testing.T) {
	waits := api.Timer{Tac: 5, Div: 16, Tma: 9, State: api.TimerWaits}
	loads := api.Timer{Tac: 5, Div: 20, Tima: 9, Tma: 9, State: api.TimerLoads}
	for _, w := range []struct {
		from api.Timer
		addr uint16
		v    uint8
		want api.Timer
	}{
		{api.Timer{Tac: 5, Div: 8, Tima: 3}, div, 99, api.Timer{Tac: 5, Tima: 4}},
		{api.Timer{Tac: 5, Div: 8, Tima: 255, Tma: 1}, div, 0, api.Timer{Tac: 5, Tma: 1, State: api.TimerWaits}},
		{api.Timer{Tac: 5, Div: 8, Tima: 255, State: api.TimerLoads}, div, 0, api.Timer{Tac: 5, State: api.TimerWaits}},
		{api.Timer{Tac: 5, Div: 8, Tima: 0, State: api.TimerWaits}, div, 0, api.Timer{Tac: 5, Tima: 1, State: api.TimerWaits}},
		{api.Timer{Tac: 5, Div: 65527, Tima: 3}, div, 0, api.Timer{Tac: 5, Tima: 3}},
		{api.Timer{Tac: 1, Div: 8, Tima: 3}, div, 0, api.Timer{Tac: 1, Tima: 3}},
		{api.Timer{Tac: 253, Div: 8, Tima: 3, State: 9}, div, 0, api.Timer{Tac: 253, Tima: 4, State: 9}},
		{waits, tima, 7, api.Timer{Tac: 5, Div: 16, Tima: 7, Tma: 9}},
		{waits, tima, 0, api.Timer{Tac: 5, Div: 16, Tma: 9}},
		{loads, tima, 7, loads},
		{api.Timer{Tima: 3, Tma: 9}, tima, 7, api.Timer{Tima: 7, Tma: 9}},
		{api.Timer{Tima: 3, Tma: 9, State: 3}, tima, 7, api.Timer{Tima: 7, Tma: 9, State: 3}},
		{waits, tma, 7, api.Timer{Tac: 5, Div: 16, Tma: 7, State: api.TimerWaits}},
		{loads, tma, 7, api.Timer{Tac: 5, Div: 20, Tima: 7, Tma: 7, State: api.TimerLoads}},
		{api.Timer{Tima: 3, Tma: 9}, tma, 7, api.Timer{Tima: 3, Tma: 7}},
		{api.Timer{Tima: 3, Tma: 9, State: 255}, tma, 7, api.Timer{Tima: 3, Tma: 7, State: 255}},
		// The line falls where it is shut, and where another bit is chosen that is 0.
		{api.Timer{Tac: 5, Div: 8, Tima: 255}, tac, 1, api.Timer{Tac: 1, Div: 8, State: api.TimerWaits}},
		{api.Timer{Tac: 5, Div: 8, Tima: 3}, tac, 6, api.Timer{Tac: 6, Div: 8, Tima: 4}},
		{api.Timer{Tac: 5, Div: 40, Tima: 3}, tac, 6, api.Timer{Tac: 6, Div: 40, Tima: 3}},
		{api.Timer{Tac: 1, Div: 8, Tima: 3}, tac, 5, api.Timer{Tac: 5, Div: 8, Tima: 3}},
		{api.Timer{Tac: 5, Div: 8, Tima: 3}, tac, 253, api.Timer{Tac: 5, Div: 8, Tima: 3}},
		{api.Timer{Tac: 253, Div: 8, Tima: 3}, tac, 248, api.Timer{Div: 8, Tima: 4}},
		{loads, 0xFF08, 7, loads},
		{loads, 0xFF03, 7, loads},
		{loads, 0x0004, 7, loads},
	} {
		if got := Write(w.from, w.addr, w.v); got != w.want {
			t.Errorf("%d to %04X of %+v: %+v, not %+v", w.v, w.addr, w.from, got, w.want)
		}
	}
}

// P11.3: what was written is read, but for Div, and Tima where it is loaded.
func TestWrittenIsRead(t *testing.T) {
	for v := range 256 {
		b := uint8(v)
		for _, state := range states {
			x := api.Timer{Div: 4096, Tima: 33, Tma: 44, Tac: 2, State: state}
			if got := Read(Write(x, div, b), div); got != 0 {
				t.Errorf("Div: %d", got)
			}
			if got := Read(Write(x, tima, b), tima); state != api.TimerLoads && got != b || state == api.TimerLoads && got != 33 {
				t.Errorf("Tima, State %d: %d", state, got)
			}
			if got := Read(Write(x, tma, b), tma); got != b {
				t.Errorf("Tma, State %d: %d", state, got)
			}
			if got := Read(Write(x, tac, b), tac); got != b|248 {
				t.Errorf("Tac: %d", got)
			}
		}
	}
}

// P11.4: behind n cycles Div is 4 times n more, whatever the rest does.
func TestDivGoesOn(t *testing.T) {
	r := rand.New(rand.NewSource(114))
	for range 20 {
		x := anyTimer(r)
		from := int(x.Div)
		for n := 1; n <= 40000; n++ {
			x, _ = Step(x)
			if int(x.Div) != (from+4*n)%65536 {
				t.Fatalf("Div %d behind %d cycles from %d", x.Div, n, from)
			}
		}
	}
}

// periods are how many cycles there are from count to count, by Tac's choice.
var periods = [4]int{256, 4, 16, 64}

// P11.4: the counts come once in a period, each as far from the last one.
func TestCountsOnceInAPeriod(t *testing.T) {
	for choice, period := range periods {
		for _, from := range []uint16{0, 1, 2, 3, 4, 511, 43980, 65535} {
			x := api.Timer{Div: from, Tac: uint8(4 + choice)}
			last := -1
			counts := 0
			for n := range 200 * period {
				was := x.Tima
				x, _ = Step(x)
				if x.Tima == was {
					continue
				}
				if x.Tima != was+1 || last >= 0 && n-last != period {
					t.Fatalf("Tac %d from %d: %d behind %d, in cycle %d, the last in %d", x.Tac, from, x.Tima, was, n, last)
				}
				last = n
				counts++
			}
			if counts != 200 {
				t.Errorf("Tac %d from %d: %d counts", x.Tac, from, counts)
			}
		}
	}
}

// P11.4: a line that is shut counts nothing.
func TestShutCountsNothing(t *testing.T) {
	for choice := range uint8(4) {
		x := api.Timer{Tima: 255, Tma: 9, Tac: choice}
		for n := range 20000 {
			var asked bool
			if x, asked = Step(x); asked || x.Tima != 255 || x.State != api.TimerRuns {
				t.Fatalf("Tac %d, cycle %d: %+v, %v", choice, n, x, asked)
			}
		}
	}
}

// P11.4: an overflow shows 0 for a cycle, then Tma, with one interrupt. With
// each Tma the interrupts come as far apart as it leaves counts.
func TestOverflow(t *testing.T) {
	for choice, period := range periods {
		for _, load := range []uint8{0, 1, 9, 128, 250, 254, 255} {
			round := (256 - int(load)) * period
			x := api.Timer{Tima: 255, Tma: load, Tac: uint8(4 + choice)}
			for n := 1; n <= period+3*round; n++ {
				var asked bool
				x, asked = Step(x)
				behind := -1 // cycles behind the last overflow
				if n >= period {
					behind = (n - period) % round
				}
				if asked != (behind == 1) {
					t.Fatalf("Tac %d, Tma %d, cycle %d: %v", x.Tac, load, n, asked)
				}
				if (x.State == api.TimerWaits) != (behind == 0) || (x.State == api.TimerLoads) != (behind == 1) {
					t.Fatalf("Tac %d, Tma %d, cycle %d: State %d", x.Tac, load, n, x.State)
				}
				if behind == 0 && x.Tima != 0 || behind == 1 && x.Tima != load {
					t.Fatalf("Tac %d, Tma %d, cycle %d: Tima %d", x.Tac, load, n, x.Tima)
				}
			}
		}
	}
}

// P11.4: who writes to FF05 while 0 is shown has what it wrote, and no
// interrupt; in the cycle behind it Tma stands, and the interrupt was there.
func TestWriteAtOverflow(t *testing.T) {
	for choice, period := range periods {
		for v := range 256 {
			waits, asked := Step(api.Timer{Div: uint16(4*period - 4), Tima: 255, Tma: 9, Tac: uint8(4 + choice)})
			if asked || waits.State != api.TimerWaits || waits.Tima != 0 {
				t.Fatalf("%+v, %v", waits, asked)
			}
			x := Write(waits, tima, uint8(v))
			for n := range 3 {
				if x, asked = Step(x); asked || x.Tima != uint8(v) || x.State != api.TimerRuns {
					t.Fatalf("%d written, cycle %d: %+v, %v", v, n, x, asked)
				}
			}
			loads, asked := Step(waits)
			if x = Write(loads, tima, uint8(v)); !asked || x.Tima != 9 || x.State != api.TimerLoads {
				t.Fatalf("%d written a cycle later: %+v, %v", v, x, asked)
			}
			// A new Tma is loaded up to the cycle of the load, not behind it.
			first, _ := Step(Write(waits, tma, uint8(v)))
			behind, _ := Step(loads)
			if first.Tima != uint8(v) || Write(loads, tma, uint8(v)).Tima != uint8(v) || Write(behind, tma, uint8(v)).Tima != 9 {
				t.Fatalf("%d written to Tma", v)
			}
		}
	}
}

// P11.1 to P11.3: long runs by chance, of cycles and writes, from timers of
// any numbers.
func TestRuns(t *testing.T) {
	r := rand.New(rand.NewSource(11))
	for range 2000 {
		x := anyTimer(r)
		for range 500 {
			if r.Intn(8) > 0 {
				wantStep(t, x)
				x, _ = Step(x)
				continue
			}
			addr, v := uint16(0xFF03+r.Intn(6)), uint8(r.Intn(256))
			if r.Intn(2) == 0 {
				v |= 0xFC
			}
			wantWritten(t, x, addr, v)
			x = Write(x, addr, v)
		}
	}
}
