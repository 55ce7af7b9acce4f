package clock

import (
	"bytes"
	"math"
	"math/rand"
	"slices"
	"testing"

	"whirligig/api"
)

// The values at which a part does something of its own, within its width or
// not, and some between.
var (
	edges    = []uint8{0, 1, 22, 23, 24, 31, 32, 55, 58, 59, 60, 63, 64, 123, 128, 187, 255}
	dayEdges = []uint16{0, 1, 255, 256, 510, 511, 512, 767, 1023, 32768, 65535}
)

// wrongRegs are numbers under which no register stands.
func wrongRegs() []int {
	wrong := []int{math.MinInt, math.MinInt32, math.MaxInt32, math.MaxInt, 1<<32 + 8, 1<<32 + 12, 65536 + 8, 256 + 8, 256 + 12, -248}
	for reg := -300; reg <= 300; reg++ {
		if reg < 8 || reg > 12 {
			wrong = append(wrong, reg)
		}
	}
	return wrong
}

// every calls f with clocks of all edges, within their widths or not.
func every(f func(api.Clock)) {
	for n := range 4 {
		for _, sec := range edges {
			for _, minute := range edges {
				for _, hour := range edges {
					for _, day := range dayEdges {
						f(api.Clock{Sec: sec, Min: minute, Hour: hour, Day: day, Halt: n&1 == 1, Carry: n&2 == 2})
					}
				}
			}
		}
	}
}

// anyClock is a clock by chance, within its widths or not.
func anyClock(r *rand.Rand) api.Clock {
	return api.Clock{
		Sec: uint8(r.Intn(256)), Min: uint8(r.Intn(256)), Hour: uint8(r.Intn(256)), Day: uint16(r.Intn(65536)),
		Halt: r.Intn(4) == 0, Carry: r.Intn(2) == 0,
	}
}

// timeOfDay is a clock that goes, of a time of day by chance.
func timeOfDay(r *rand.Rand) api.Clock {
	return api.Clock{
		Sec: uint8(r.Intn(60)), Min: uint8(r.Intn(60)), Hour: uint8(r.Intn(24)), Day: uint16(r.Intn(512)), Carry: r.Intn(2) == 0,
	}
}

// isRight is the chapter's word for it.
func isRight(c api.Clock) bool {
	return c.Sec <= 63 && c.Min <= 63 && c.Hour <= 31 && c.Day <= 511
}

// cut is what Norm must answer, by taking away whole rounds.
func cut(c api.Clock) api.Clock {
	for c.Sec > 63 {
		c.Sec -= 64
	}
	for c.Min > 63 {
		c.Min -= 64
	}
	for c.Hour > 31 {
		c.Hour -= 32
	}
	for c.Day > 511 {
		c.Day -= 512
	}
	return c
}

// counted is a part that is counted on: from last to 0, and from what is the
// greatest in its width to 0.
func counted(v, last, greatest uint8) uint8 {
	if v == last || v == greatest {
		return 0
	}
	return v + 1
}

// ticked is what Tick must answer, each part by what all were ahead.
func ticked(c api.Clock) api.Clock {
	was := cut(c)
	now := was
	if was.Halt {
		return now
	}
	now.Sec = counted(was.Sec, 59, 63)
	if was.Sec == 59 {
		now.Min = counted(was.Min, 59, 63)
	}
	if was.Sec == 59 && was.Min == 59 {
		now.Hour = counted(was.Hour, 23, 31)
	}
	if was.Sec == 59 && was.Min == 59 && was.Hour == 23 {
		now.Day = (was.Day + 1) % 512
		now.Carry = was.Carry || was.Day == 511
	}
	return now
}

// shown is what Read must answer of the five registers.
func shown(c api.Clock) [5]uint8 {
	c = cut(c)
	last := int(c.Day) / 256
	if c.Halt {
		last += 64
	}
	if c.Carry {
		last += 128
	}
	return [5]uint8{c.Sec, c.Min, c.Hour, uint8(int(c.Day) % 256), uint8(last)}
}

// masks are the bits that each register has.
var masks = [5]uint8{0x3F, 0x3F, 0x1F, 0xFF, 0xC1}

// P9.1: each value of each part.
func TestNormOfParts(t *testing.T) {
	for v := range 65536 {
		b := uint8(v % 256)
		for _, c := range []api.Clock{
			{Sec: b}, {Min: b}, {Hour: b}, {Day: uint16(v)},
			{Sec: b, Min: b, Hour: b, Day: uint16(v), Halt: true}, {Sec: ^b, Min: b, Hour: ^b, Day: ^uint16(v), Carry: true},
		} {
			if got := Norm(c); got != cut(c) || !isRight(got) {
				t.Fatalf("Norm(%+v): %+v", c, got)
			}
		}
	}
}

// P9.1
func TestNorm(t *testing.T) {
	for _, c := range []struct{ in, want api.Clock }{
		{api.Clock{}, api.Clock{}},
		{api.Clock{Sec: 63, Min: 63, Hour: 31, Day: 511}, api.Clock{Sec: 63, Min: 63, Hour: 31, Day: 511}},
		{api.Clock{Sec: 64, Min: 64, Hour: 32, Day: 512, Halt: true, Carry: true}, api.Clock{Halt: true, Carry: true}},
		{api.Clock{Sec: 255, Min: 254, Hour: 253, Day: 65535, Carry: true}, api.Clock{Sec: 63, Min: 62, Hour: 29, Day: 511, Carry: true}},
		{api.Clock{Sec: 60, Min: 61, Hour: 24, Day: 300, Halt: true}, api.Clock{Sec: 60, Min: 61, Hour: 24, Day: 300, Halt: true}},
	} {
		if got := Norm(c.in); got != c.want {
			t.Errorf("Norm(%+v): %+v", c.in, got)
		}
	}
	every(func(c api.Clock) {
		if got := Norm(c); got != cut(c) || Norm(got) != got {
			t.Fatalf("Norm(%+v): %+v", c, got)
		}
	})
}

// P9.1: every other call takes Norm of what it is given.
func TestCallsTakeNorm(t *testing.T) {
	every(func(c api.Clock) {
		n := cut(c)
		if Tick(c) != Tick(n) {
			t.Fatalf("Tick(%+v)", c)
		}
		for reg := 7; reg <= 13; reg++ {
			v, e := Read(c, reg)
			w, f := Read(n, reg)
			if v != w || e != f {
				t.Fatalf("Read(%+v, %d)", c, reg)
			}
			a, e := Write(c, reg, 0xA5)
			b, f := Write(n, reg, 0xA5)
			if a != b || e != f {
				t.Fatalf("Write(%+v, %d)", c, reg)
			}
		}
		for k := range 3 {
			a, e := Run(c, k)
			b, f := Run(n, k)
			if a != b || e != f {
				t.Fatalf("Run(%+v, %d)", c, k)
			}
		}
		if !bytes.Equal(Bytes(c, api.Clock{}), Bytes(n, api.Clock{})) || !bytes.Equal(Bytes(api.Clock{}, c), Bytes(api.Clock{}, n)) {
			t.Fatalf("Bytes of %+v", c)
		}
	})
}

// P9.2: what the chapter says of single clocks, written out.
func TestTickByHand(t *testing.T) {
	for _, c := range []struct{ in, want api.Clock }{
		{api.Clock{}, api.Clock{Sec: 1}},
		{api.Clock{Sec: 58, Min: 59, Hour: 23, Day: 511}, api.Clock{Sec: 59, Min: 59, Hour: 23, Day: 511}},
		{api.Clock{Sec: 59, Min: 59, Hour: 23, Day: 511}, api.Clock{Carry: true}},
		{api.Clock{Sec: 59, Min: 59, Hour: 23, Day: 511, Carry: true}, api.Clock{Carry: true}},
		{api.Clock{Sec: 59, Min: 59, Hour: 23, Day: 510}, api.Clock{Day: 511}},
		{api.Clock{Sec: 59, Min: 59, Hour: 23, Day: 255, Carry: true}, api.Clock{Day: 256, Carry: true}},
		{api.Clock{Sec: 59, Min: 59, Hour: 22, Day: 511}, api.Clock{Hour: 23, Day: 511}},
		{api.Clock{Sec: 59, Min: 59, Hour: 24, Day: 511}, api.Clock{Hour: 25, Day: 511}},
		{api.Clock{Sec: 59, Min: 59, Hour: 31, Day: 511}, api.Clock{Day: 511}},
		{api.Clock{Sec: 59, Min: 58, Hour: 23, Day: 511}, api.Clock{Min: 59, Hour: 23, Day: 511}},
		{api.Clock{Sec: 59, Min: 60, Hour: 23, Day: 511}, api.Clock{Min: 61, Hour: 23, Day: 511}},
		{api.Clock{Sec: 59, Min: 63, Hour: 23, Day: 511}, api.Clock{Hour: 23, Day: 511}},
		{api.Clock{Sec: 60, Min: 59, Hour: 23, Day: 511}, api.Clock{Sec: 61, Min: 59, Hour: 23, Day: 511}},
		{api.Clock{Sec: 63, Min: 59, Hour: 23, Day: 511}, api.Clock{Min: 59, Hour: 23, Day: 511}},
		{api.Clock{Sec: 63, Min: 5}, api.Clock{Min: 5}},
		{api.Clock{Sec: 123, Min: 123, Hour: 55, Day: 1023}, api.Clock{Carry: true}},
		{api.Clock{Sec: 59, Min: 59, Hour: 23, Day: 511, Halt: true}, api.Clock{Sec: 59, Min: 59, Hour: 23, Day: 511, Halt: true}},
		{api.Clock{Sec: 70, Min: 123, Hour: 55, Day: 1023, Halt: true}, api.Clock{Sec: 6, Min: 59, Hour: 23, Day: 511, Halt: true}},
	} {
		if got := Tick(c.in); got != c.want {
			t.Errorf("Tick(%+v): %+v, not %+v", c.in, got, c.want)
		}
	}
}

// P9.2
func TestTick(t *testing.T) {
	every(func(c api.Clock) {
		if got, want := Tick(c), ticked(c); got != want {
			t.Fatalf("Tick(%+v): %+v, not %+v", c, got, want)
		}
	})
	r := rand.New(rand.NewSource(9))
	for range 200000 {
		c := anyClock(r)
		if got, want := Tick(c), ticked(c); got != want {
			t.Fatalf("Tick(%+v): %+v, not %+v", c, got, want)
		}
	}
}

// P9.2: each day, as the last second of it is over.
func TestTickOfDays(t *testing.T) {
	for day := range 65536 {
		c := api.Clock{Sec: 59, Min: 59, Hour: 23, Day: uint16(day)}
		want := api.Clock{Day: uint16((day + 1) % 512), Carry: day%512 == 511}
		if got := Tick(c); got != want {
			t.Fatalf("Tick(%+v): %+v", c, got)
		}
	}
}

// P9.3: numbers that may not be.
func TestRunWrong(t *testing.T) {
	for _, n := range []int{-1, -2, -100000, math.MinInt, math.MinInt32, 100001, 100002, 1 << 17, 1 << 32, 1<<32 + 1, math.MaxInt32, math.MaxInt} {
		for _, c := range []api.Clock{{}, {Sec: 1, Min: 2, Hour: 3, Day: 4, Carry: true}, {Sec: 255, Halt: true}} {
			if got, e := Run(c, n); e != api.ErrArg || got != (api.Clock{}) {
				t.Errorf("Run(%+v, %d): %+v, %d", c, n, got, e)
			}
		}
	}
}

// wantRun fails if a Run ends at another time.
func wantRun(t *testing.T, c api.Clock, n int, want api.Clock) {
	t.Helper()
	if got, e := Run(c, n); e != api.OK || got != want {
		t.Errorf("Run(%+v, %d): %+v, %d, not %+v", c, n, got, e, want)
	}
}

// P9.3: written out, and the edges.
func TestRunByHand(t *testing.T) {
	wantRun(t, api.Clock{}, 0, api.Clock{})
	wantRun(t, api.Clock{}, 3661, api.Clock{Sec: 1, Min: 1, Hour: 1})
	wantRun(t, api.Clock{}, 100000, api.Clock{Sec: 40, Min: 46, Hour: 3, Day: 1})
	wantRun(t, api.Clock{}, 99999, api.Clock{Sec: 39, Min: 46, Hour: 3, Day: 1})
	wantRun(t, api.Clock{Day: 511}, 100000, api.Clock{Sec: 40, Min: 46, Hour: 3, Carry: true})
	wantRun(t, api.Clock{Sec: 255, Min: 255, Hour: 255, Day: 65535, Carry: true}, 0, api.Clock{Sec: 63, Min: 63, Hour: 31, Day: 511, Carry: true})
	// What is above 59 comes back to 0 without a minute.
	wantRun(t, api.Clock{Sec: 60}, 4, api.Clock{})
	wantRun(t, api.Clock{Sec: 60}, 64, api.Clock{Min: 1})
	wantRun(t, api.Clock{Min: 60}, 240, api.Clock{})
	wantRun(t, api.Clock{Hour: 24, Day: 511}, 8*3600, api.Clock{Day: 511})
}

// P9.3: each is so many Ticks.
func TestRunIsTicks(t *testing.T) {
	r := rand.New(rand.NewSource(93))
	for range 30 {
		c := anyClock(r)
		want := cut(c)
		for n := range 300 {
			wantRun(t, c, n, want)
			want = ticked(want)
		}
	}
	for range 10 {
		c, n := anyClock(r), r.Intn(100001)
		want := cut(c)
		for range n {
			want = ticked(want)
		}
		wantRun(t, c, n, want)
	}
}

// P9.4
func TestRead(t *testing.T) {
	every(func(c api.Clock) {
		for i, want := range shown(c) {
			if got, e := Read(c, 8+i); e != api.OK || got != want {
				t.Fatalf("Read(%+v, %d): %d, %d, not %d", c, 8+i, got, e, want)
			}
		}
	})
	for day := range 65536 {
		c := api.Clock{Day: uint16(day)}
		low, e := Read(c, 11)
		high, f := Read(c, 12)
		if e != api.OK || f != api.OK || 256*int(high)+int(low) != day%512 {
			t.Fatalf("Read(%+v): %d, %d", c, high, low)
		}
	}
}

// P9.4: the last register, written out.
func TestReadByHand(t *testing.T) {
	for _, c := range []struct {
		in   api.Clock
		reg  int
		want uint8
	}{
		{api.Clock{Day: 300}, 12, 1},
		{api.Clock{Day: 300}, 11, 44},
		{api.Clock{Day: 255}, 12, 0},
		{api.Clock{Day: 256}, 12, 1},
		{api.Clock{Day: 256}, 11, 0},
		{api.Clock{Day: 512}, 12, 0},
		{api.Clock{Halt: true}, 12, 64},
		{api.Clock{Carry: true}, 12, 128},
		{api.Clock{Sec: 255, Min: 255, Hour: 255, Day: 65535, Halt: true, Carry: true}, 12, 193},
		{api.Clock{Sec: 70}, 8, 6},
		{api.Clock{Min: 71}, 9, 7},
		{api.Clock{Hour: 40}, 10, 8},
	} {
		if got, e := Read(c.in, c.reg); e != api.OK || got != c.want {
			t.Errorf("Read(%+v, %d): %d, %d, not %d", c.in, c.reg, got, e, c.want)
		}
	}
}

// P9.4: registers that there aren't.
func TestWrongRegs(t *testing.T) {
	full := api.Clock{Sec: 255, Min: 255, Hour: 255, Day: 65535, Halt: true, Carry: true}
	for _, reg := range wrongRegs() {
		for _, c := range []api.Clock{{}, {Sec: 1, Min: 2, Hour: 3, Day: 4}, full} {
			if v, e := Read(c, reg); e != api.ErrNone || v != 0 {
				t.Errorf("Read(%+v, %d): %d, %d", c, reg, v, e)
			}
			if got, e := Write(c, reg, 255); e != api.ErrNone || got != (api.Clock{}) {
				t.Errorf("Write(%+v, %d): %+v, %d", c, reg, got, e)
			}
		}
	}
}

// wantWritten fails unless a register shows what was written, and all others
// what they showed.
func wantWritten(t *testing.T, c api.Clock, reg int, v uint8) {
	t.Helper()
	want := shown(c)
	want[reg-8] = v & masks[reg-8]
	got, e := Write(c, reg, v)
	if e != api.OK || !isRight(got) || shown(got) != want {
		t.Fatalf("Write(%+v, %d, %d): %+v, %d", c, reg, v, got, e)
	}
}

// P9.4: each byte into each register.
func TestWrite(t *testing.T) {
	r := rand.New(rand.NewSource(94))
	for reg := 8; reg <= 12; reg++ {
		for v := range 256 {
			wantWritten(t, api.Clock{}, reg, uint8(v))
			wantWritten(t, api.Clock{Sec: 255, Min: 255, Hour: 255, Day: 65535, Halt: true, Carry: true}, reg, uint8(v))
			wantWritten(t, api.Clock{Sec: 21, Min: 22, Hour: 13, Day: 341}, reg, uint8(v))
			wantWritten(t, api.Clock{Day: 768 + 17, Halt: true}, reg, uint8(v))
			for range 50 {
				wantWritten(t, anyClock(r), reg, uint8(v))
			}
		}
	}
}

// P9.4: written out.
func TestWriteByHand(t *testing.T) {
	c := api.Clock{Sec: 1, Min: 2, Hour: 3, Day: 300}
	for _, w := range []struct {
		reg  int
		v    uint8
		want api.Clock
	}{
		{8, 255, api.Clock{Sec: 63, Min: 2, Hour: 3, Day: 300}},
		{9, 60, api.Clock{Sec: 1, Min: 60, Hour: 3, Day: 300}},
		{9, 64, api.Clock{Sec: 1, Min: 0, Hour: 3, Day: 300}},
		{10, 33, api.Clock{Sec: 1, Min: 2, Hour: 1, Day: 300}},
		{11, 255, api.Clock{Sec: 1, Min: 2, Hour: 3, Day: 511}},
		{11, 0, api.Clock{Sec: 1, Min: 2, Hour: 3, Day: 256}},
		{12, 0, api.Clock{Sec: 1, Min: 2, Hour: 3, Day: 44}},
		{12, 0x3E, api.Clock{Sec: 1, Min: 2, Hour: 3, Day: 44}},
		{12, 0x40, api.Clock{Sec: 1, Min: 2, Hour: 3, Day: 44, Halt: true}},
		{12, 0x81, api.Clock{Sec: 1, Min: 2, Hour: 3, Day: 300, Carry: true}},
	} {
		if got, e := Write(c, w.reg, w.v); e != api.OK || got != w.want {
			t.Errorf("Write %d, %d: %+v, %d", w.reg, w.v, got, e)
		}
	}
}

// P9.5
func TestBytes(t *testing.T) {
	got := Bytes(api.Clock{Sec: 65, Min: 2, Hour: 3, Day: 300, Halt: true}, api.Clock{Sec: 59, Min: 60, Hour: 31, Day: 255, Carry: true})
	if !bytes.Equal(got, []byte{1, 2, 3, 44, 65, 59, 60, 31, 255, 128}) {
		t.Error(got)
	}
	r := rand.New(rand.NewSource(95))
	for range 20000 {
		live, held := anyClock(r), anyClock(r)
		a, b := shown(live), shown(held)
		if got := Bytes(live, held); !bytes.Equal(got, slices.Concat(a[:], b[:])) {
			t.Fatalf("Bytes(%+v, %+v): %v", live, held, got)
		}
	}
}

// wantNone fails if bytes aren't refused that way.
func wantNone(t *testing.T, b []byte, want api.Errno) {
	t.Helper()
	if live, held, e := Of(b); e != want || live != (api.Clock{}) || held != (api.Clock{}) {
		t.Errorf("Of(%v): %+v, %+v, %d, not %d", b, live, held, e, want)
	}
}

// P9.5: a size that may not be comes ahead of what the bytes say.
func TestOfWrongSizes(t *testing.T) {
	wantNone(t, nil, api.ErrSize)
	for n := range 100 {
		if n != api.ClockSize {
			wantNone(t, make([]byte, n), api.ErrSize)
			wantNone(t, bytes.Repeat([]byte{255}, n), api.ErrSize)
		}
	}
}

// P9.5: each byte at each place, alone and among others.
func TestOfBytes(t *testing.T) {
	for _, around := range [][]byte{make([]byte, 10), {63, 63, 31, 255, 193, 63, 63, 31, 255, 193}, {1, 2, 3, 4, 65, 5, 6, 7, 8, 129}} {
		for at := range 10 {
			for v := range 256 {
				b := bytes.Clone(around)
				b[at] = byte(v)
				if b[at]&^masks[at%5] != 0 {
					wantNone(t, b, api.ErrText)
					continue
				}
				live, held, e := Of(b)
				l, h := shown(live), shown(held)
				if e != api.OK || !isRight(live) || !isRight(held) || !bytes.Equal(slices.Concat(l[:], h[:]), b) {
					t.Errorf("Of(%v): %+v, %+v, %d", b, live, held, e)
				}
			}
		}
	}
}

// P9.5: any ten bytes are taken up just where they are two clocks'.
func TestOfAnyBytes(t *testing.T) {
	r := rand.New(rand.NewSource(955))
	for range 100000 {
		b := make([]byte, 10)
		right := true
		for i := range b {
			b[i] = byte(r.Intn(256))
			if r.Intn(20) > 0 {
				b[i] &= masks[i%5]
			}
			right = right && b[i]&^masks[i%5] == 0
		}
		if !right {
			wantNone(t, b, api.ErrText)
			continue
		}
		live, held, e := Of(b)
		if e != api.OK || !bytes.Equal(Bytes(live, held), b) {
			t.Fatalf("Of(%v): %+v, %+v, %d", b, live, held, e)
		}
	}
}

// R3: what is handed in stays as it is, and what is told is the caller's own.
func TestBytesAreTheCallersOwn(t *testing.T) {
	c := api.Clock{Sec: 1, Min: 2, Hour: 3, Day: 4}
	first := Bytes(c, c)
	kept := bytes.Clone(first)
	live, held, _ := Of(first)
	if !bytes.Equal(first, kept) {
		t.Error("Of changed its bytes")
	}
	for i := range first {
		first[i] = 99
	}
	if live != c || held != c || !bytes.Equal(Bytes(c, c), kept) {
		t.Error("bytes are shared")
	}
}

// P9.6: what is told is right.
func TestToldIsRight(t *testing.T) {
	every(func(c api.Clock) {
		ran, _ := Run(c, 2)
		told := []api.Clock{Norm(c), Tick(c), ran}
		for reg := 8; reg <= 12; reg++ {
			w, _ := Write(c, reg, 0xFE)
			told = append(told, w)
		}
		for _, x := range told {
			if !isRight(x) {
				t.Fatalf("%+v of %+v", x, c)
			}
		}
	})
}

// P9.6: a day later.
func TestDay(t *testing.T) {
	r := rand.New(rand.NewSource(96))
	for n := range 40 {
		c := timeOfDay(r)
		if n%4 == 0 {
			c.Day = 511
		}
		want := c
		want.Day = (c.Day + 1) % 512
		want.Carry = c.Carry || c.Day == 511
		wantRun(t, c, 86400, want)
	}
}

// P9.6: Runs add up.
func TestRunsAddUp(t *testing.T) {
	r := rand.New(rand.NewSource(966))
	for range 60 {
		c, n, m := anyClock(r), r.Intn(50001), r.Intn(50001)
		first, _ := Run(c, n)
		both, _ := Run(c, n+m)
		wantRun(t, first, m, both)
	}
}

// P9.6: a Halt stands still.
func TestHalt(t *testing.T) {
	every(func(c api.Clock) {
		if c.Halt && Tick(c) != cut(c) {
			t.Fatalf("Tick(%+v)", c)
		}
	})
	for _, n := range []int{0, 1, 59, 60, 3600, 86400, 100000} {
		c := api.Clock{Sec: 59, Min: 59, Hour: 23, Day: 511, Halt: true}
		wantRun(t, c, n, c)
		wantRun(t, api.Clock{Sec: 64, Min: 65, Hour: 66, Day: 1000, Halt: true, Carry: true}, n, api.Clock{Min: 1, Hour: 2, Day: 488, Halt: true, Carry: true})
	}
}

// P9.6: what was written is read.
func TestWrittenIsRead(t *testing.T) {
	every(func(c api.Clock) {
		for i, mask := range masks {
			for _, v := range []uint8{0, 0x55, 0xAA, 0xFF} {
				w, _ := Write(c, 8+i, v)
				if got, e := Read(w, 8+i); e != api.OK || got != v&mask {
					t.Fatalf("%d to %d of %+v: %d, %d", v, 8+i, c, got, e)
				}
			}
		}
	})
}

// P9.6, P2: Of of Bytes is both clocks.
func TestOfBytesIsBoth(t *testing.T) {
	last := api.Clock{}
	every(func(c api.Clock) {
		live, held, e := Of(Bytes(c, last))
		if e != api.OK || live != cut(c) || held != cut(last) {
			t.Fatalf("Of of Bytes(%+v, %+v): %+v, %+v, %d", c, last, live, held, e)
		}
		last = c
	})
}
