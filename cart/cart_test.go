package cart

import (
	"bytes"
	"fmt"
	"math/rand"
	"slices"
	"testing"

	"whirligig/api"
	"whirligig/clock"
	"whirligig/header"
	"whirligig/mapper"
)

// allKinds are all that there are.
var allKinds = []uint8{0, 8, 9, 1, 2, 3, 15, 16, 17, 18, 19, 25, 26, 27, 28, 29, 30}

// The kinds that have something, by the chapter's list.
var (
	withRam     = []uint8{8, 9, 2, 3, 16, 18, 19, 26, 27, 29, 30}
	withBattery = []uint8{9, 3, 15, 16, 19, 27, 30}
	withClock   = []uint8{15, 16}
)

// ramBytes are the sizes of RAM by their numbers.
var ramBytes = []int{0, 2048, 8192, 32768, 131072, 65536}

// edges are the places at which something ends or begins, and some between.
var edges = []uint16{
	0, 1, 0x0FFF, 0x1000, 0x1FFF, 0x2000, 0x2FFF, 0x3000, 0x3FFF, 0x4000, 0x4001, 0x5FFF, 0x6000, 0x6001, 0x7000, 0x7FFF, 0x8000,
	0x8001, 0x9FFF, 0xA000, 0xA001, 0xA7FF, 0xA800, 0xB000, 0xBFFF, 0xC000, 0xDFFF, 0xE000, 0xFE00, 0xFF00, 0xFFFF,
}

// masks are the bits that each of the clock's registers has, from 8 on.
var masks = [5]uint8{0x3F, 0x3F, 0x1F, 0xFF, 0xC1}

// made is an image of that kind, with bytes by chance behind its head.
func made(t testing.TB, kind, rom, ram uint8, more int) []byte {
	t.Helper()
	code := make([]byte, more)
	rand.New(rand.NewSource(int64(kind) + 1)).Read(code)
	image, e := header.Make("CART", kind, rom, ram, code)
	if e != api.OK {
		t.Fatalf("Make(%d, %d, %d): %d", kind, rom, ram, e)
	}
	return image
}

// numbered is an image of whole banks; each has its number from its place 4096
// on, the high byte first.
func numbered(t testing.TB, kind, rom, ram uint8) []byte {
	t.Helper()
	banks := 2 << rom
	image := made(t, kind, rom, ram, banks*api.BankSize-api.HeadSize)
	for n := range banks {
		image[n*api.BankSize+4096], image[n*api.BankSize+4097] = uint8(n/256), uint8(n%256)
	}
	return image
}

// put is a cartridge with that image.
func put(t testing.TB, image []byte) *Cart {
	t.Helper()
	c, e := New(image)
	if e != api.OK || c == nil {
		t.Fatalf("New of %d bytes: %v, %d", len(image), c, e)
	}
	return c
}

// small is a cartridge of that kind with a small image.
func small(t testing.TB, kind, ram uint8) *Cart {
	t.Helper()
	return put(t, made(t, kind, 1, ram, 100))
}

// told writes places and bytes, in pairs.
func told(c *Cart, pairs ...int) {
	for i := 0; i < len(pairs); i += 2 {
		c.Write(uint16(pairs[i]), uint8(pairs[i+1]))
	}
}

// ticks lets seconds go by.
func ticks(c *Cart, n int) {
	for range n {
		c.Tick()
	}
}

// wantRead fails if a place has another byte.
func wantRead(t *testing.T, c *Cart, addr uint16, want uint8) {
	t.Helper()
	if got := c.Read(addr); got != want {
		t.Errorf("Read(%04X): %d, not %d", addr, got, want)
	}
}

// wantBank fails if another bank of a numbered image stands in that half.
func wantBank(t *testing.T, c *Cart, half uint16, want int) {
	t.Helper()
	if got := 256*int(c.Read(half+4096)) + int(c.Read(half+4097)); got != want {
		t.Errorf("bank at %04X: %d, not %d", half, got, want)
	}
}

// wantState fails if a cartridge has other registers or clocks.
func wantState(t *testing.T, c *Cart, m api.Mapper, live, held api.Clock) {
	t.Helper()
	gotMapper, gotLive, gotHeld := c.State()
	if gotMapper != m || gotLive != live || gotHeld != held {
		t.Errorf("State: %+v, %+v, %+v, not %+v, %+v, %+v", gotMapper, gotLive, gotHeld, m, live, held)
	}
}

// clocksOf are both clocks.
func clocksOf(c *Cart) [2]api.Clock {
	_, live, held := c.State()
	return [2]api.Clock{live, held}
}

// whole is all that can be seen of a cartridge but its image.
func whole(c *Cart) string {
	m, live, held := c.State()
	return fmt.Sprintf("%+v %+v %+v %+v %x %x", c.Head(), m, live, held, c.Ram(), c.Save())
}

// P10.1: chapter 7's errors.
func TestNewRefuses(t *testing.T) {
	right := made(t, 16, 1, 2, 50)
	spoilt := func(at int, v byte) []byte {
		b := bytes.Clone(right)
		b[at] = v
		return b
	}
	for _, c := range []struct {
		name  string
		image []byte
		want  api.Errno
	}{
		{"nil", nil, api.ErrShort},
		{"empty", []byte{}, api.ErrShort},
		{"short", right[:335], api.ErrShort},
		{"kind 4", spoilt(327, 4), api.ErrKind},
		{"kind 255", spoilt(327, 255), api.ErrKind},
		{"rom 9", spoilt(328, 9), api.ErrSize},
		{"ram 6", spoilt(329, 6), api.ErrSize},
		{"long", append(bytes.Clone(right), make([]byte, 65536)...), api.ErrSize},
		{"sum", spoilt(333, right[333]+1), api.ErrSum},
		{"title", spoilt(308, 'X'), api.ErrSum},
	} {
		if got, e := New(c.image); got != nil || e != c.want {
			t.Errorf("%s: %v, %d, not %d", c.name, got, e, c.want)
		}
	}
}

// P10.1: an image is refused just as Parse does it.
func TestNewRefusesAsParse(t *testing.T) {
	r := rand.New(rand.NewSource(101))
	for range 5000 {
		b := made(t, allKinds[r.Intn(len(allKinds))], uint8(r.Intn(2)), uint8(r.Intn(6)), r.Intn(100))
		for range r.Intn(3) {
			b[300+r.Intn(36)] = byte(r.Intn(256))
		}
		if r.Intn(10) == 0 {
			b = b[:r.Intn(len(b))]
		}
		want, f := header.Parse(b)
		c, e := New(b)
		if e != f || (c == nil) != (f != api.OK) || c.Head() != want {
			t.Fatalf("New: %+v, %d, not %+v, %d", c.Head(), e, want, f)
		}
	}
}

// P10.1: what each kind begins with.
func TestNewBegins(t *testing.T) {
	mappers := map[uint8]int{
		0: 0, 8: 0, 9: 0, 1: 1, 2: 1, 3: 1, 15: 3, 16: 3, 17: 3, 18: 3, 19: 3, 25: 5, 26: 5, 27: 5, 28: 5, 29: 5, 30: 5,
	}
	for _, kind := range allKinds {
		for ram, size := range ramBytes {
			image := made(t, kind, 2, uint8(ram), 10)
			c := put(t, image)
			if !slices.Contains(withRam, kind) {
				size = 0
			}
			if got := c.Ram(); !bytes.Equal(got, make([]byte, size)) {
				t.Errorf("kind %d, ram %d: %d bytes", kind, ram, len(got))
			}
			wantState(t, c, api.Mapper{Kind: mappers[kind]}, api.Clock{}, api.Clock{})
			if want, e := header.Parse(image); e != api.OK || c.Head() != want || want.Size != size {
				t.Errorf("kind %d, ram %d: %+v", kind, ram, c.Head())
			}
		}
	}
}

// P10.1, R3: the image is a copy, and what was handed in stays as it was.
func TestNewCopies(t *testing.T) {
	image := made(t, 3, 1, 2, 1000)
	kept := bytes.Clone(image)
	c, d := put(t, image), put(t, image)
	told(c, 0, 10, 0x2000, 3, 0xA000, 77, 336, 99)
	if !bytes.Equal(image, kept) {
		t.Error("the image was changed")
	}
	wantState(t, d, api.Mapper{Kind: api.Map1}, api.Clock{}, api.Clock{})
	if d.Ram()[0] != 0 {
		t.Error("two cartridges share a RAM")
	}
	for i := range image {
		image[i] = 0
	}
	for at := range kept {
		wantRead(t, c, uint16(at), kept[at])
		wantRead(t, d, uint16(at), kept[at])
	}
}

// P10.2: the image, where there are no registers.
func TestReadNoMapper(t *testing.T) {
	image := made(t, 0, 0, 0, 32768-336)
	c := put(t, image)
	told(c, 0, 10, 0x2000, 5, 0x4000, 1, 0x6000, 1)
	for addr := range 0x8000 {
		wantRead(t, c, uint16(addr), image[addr])
	}
	for addr := 0x8000; addr < 0x10000; addr++ {
		wantRead(t, c, uint16(addr), 255)
	}
}

// P10.2: an image that is shorter than its banks stands there again and again.
func TestReadShortImage(t *testing.T) {
	for _, more := range []int{0, 1, 2, 1000, 16384 - 336, 16384 - 335, 32768 - 337} {
		image := made(t, 1, 2, 0, more)
		c := put(t, image)
		for addr := range 0x8000 {
			wantRead(t, c, uint16(addr), image[addr%len(image)])
		}
		c.Write(0x2000, 5)
		for addr := 0x4000; addr < 0x8000; addr += 7 {
			wantRead(t, c, uint16(addr), image[(5*16384+addr-0x4000)%len(image)])
		}
	}
}

// P10.2, P10.3: a Map1's banks.
func TestBanksOfMap1(t *testing.T) {
	c := put(t, numbered(t, 1, 6, 0))
	wantBank(t, c, 0, 0)
	wantBank(t, c, 0x4000, 1)
	for low := range 256 {
		c.Write(0x3FFF, uint8(low))
		wantBank(t, c, 0, 0)
		wantBank(t, c, 0x4000, max(1, low%32))
	}
	told(c, 0x2000, 0, 0x4000, 3)
	wantBank(t, c, 0x4000, 97)
	wantBank(t, c, 0, 0)
	c.Write(0x7FFF, 1)
	wantBank(t, c, 0, 96)
	told(c, 0x5FFF, 1, 0x2000, 7)
	wantBank(t, c, 0, 32)
	wantBank(t, c, 0x4000, 39)
	c.Write(0x6000, 0)
	wantBank(t, c, 0, 0)
}

// P10.2, P10.3: fewer banks than the registers can tell.
func TestBanksBeyond(t *testing.T) {
	c := put(t, numbered(t, 1, 1, 0))
	told(c, 0x2000, 6, 0x4000, 3)
	wantBank(t, c, 0x4000, 2)
	c.Write(0x2000, 4)
	wantBank(t, c, 0x4000, 0)
}

// P10.2, P10.3: a Map3's banks.
func TestBanksOfMap3(t *testing.T) {
	c := put(t, numbered(t, 19, 6, 3))
	for low := range 256 {
		c.Write(0x2000, uint8(low))
		wantBank(t, c, 0, 0)
		wantBank(t, c, 0x4000, max(1, low%128))
	}
}

// P10.2, P10.3: a Map5's banks, of the greatest image.
func TestBanksOfMap5(t *testing.T) {
	image := numbered(t, 27, 8, 4)
	if len(image) != api.MaxImage {
		t.Fatal(len(image))
	}
	c := put(t, image)
	wantBank(t, c, 0x4000, 0)
	for n := range 512 {
		told(c, 0x2FFF, n%256, 0x3000, n/256)
		wantBank(t, c, 0, 0)
		wantBank(t, c, 0x4000, n)
	}
	if last := c.Read(0x7FFF); last != image[len(image)-1] {
		t.Error(last)
	}
}

// P10.2, P10.3: the chapter's example.
func TestRamByHand(t *testing.T) {
	c := small(t, 3, 2)
	c.Write(0xA000, 5)
	wantRead(t, c, 0xA000, 255)
	c.Write(0, 10)
	wantRead(t, c, 0xA000, 0)
	c.Write(0xA000, 5)
	wantRead(t, c, 0xA000, 5)
	c.Write(0, 0)
	wantRead(t, c, 0xA000, 255)
	c.Write(0xA000, 6)
	c.Write(0x1FFF, 0x1A)
	wantRead(t, c, 0xA000, 5)
}

// P10.2, P10.3: a small RAM stands in its window several times.
func TestRamSmall(t *testing.T) {
	for _, kind := range withRam {
		c := small(t, kind, 1)
		told(c, 0, 10, 0xA001, 1, 0xAFFF, 2, 0xB801, 3)
		for _, base := range []uint16{0xA000, 0xA800, 0xB000, 0xB800} {
			wantRead(t, c, base, 0)
			wantRead(t, c, base+1, 3)
			wantRead(t, c, base+0x7FF, 2)
		}
		if ram := c.Ram(); len(ram) != 2048 || ram[1] != 3 || ram[2047] != 2 {
			t.Errorf("kind %d: RAM of %d bytes", kind, len(ram))
		}
	}
}

// P10.2, P10.3: each byte of a RAM without registers, which is always open.
func TestRamNoMapper(t *testing.T) {
	c := small(t, 8, 2)
	want := make([]byte, 8192)
	for i := range want {
		want[i] = uint8(i*7 + i/256)
		c.Write(uint16(0xA000+i), want[i])
	}
	for i := range want {
		wantRead(t, c, uint16(0xA000+i), want[i])
	}
	if !bytes.Equal(c.Ram(), want) {
		t.Error("another RAM")
	}
}

// P10.2, P10.3: banks of RAM.
func TestRamBanks(t *testing.T) {
	c := small(t, 3, 3)
	told(c, 0, 10, 0xA000, 1, 0x4000, 2, 0xA000, 2, 0x6000, 1, 0xA000, 3, 0xBFFF, 4)
	if ram := c.Ram(); ram[0] != 2 || ram[2*8192] != 3 || ram[3*8192-1] != 4 {
		t.Error("Map1")
	}
	for _, kind := range []uint8{16, 19, 27, 30} {
		c := small(t, kind, 4)
		c.Write(0, 10)
		for bank := range 8 {
			told(c, 0x4000, bank, 0xA000, bank+1, 0xBFFF, bank+101)
		}
		ram := c.Ram()
		for bank := range 8 {
			c.Write(0x5FFF, uint8(bank))
			wantRead(t, c, 0xA000, uint8(bank+1))
			wantRead(t, c, 0xBFFF, uint8(bank+101))
			if ram[bank*8192] != uint8(bank+1) || ram[bank*8192+8191] != uint8(bank+101) {
				t.Errorf("kind %d, bank %d", kind, bank)
			}
		}
	}
}

// P10.2, P10.3: banks of RAM beyond what there is come round again.
func TestRamBanksBeyond(t *testing.T) {
	c := small(t, 27, 3)
	told(c, 0, 10, 0x4000, 13, 0xA123, 9, 0x4000, 1)
	wantRead(t, c, 0xA123, 9)
	if c.Ram()[8192+0x123] != 9 {
		t.Error("another place")
	}
}

// P10.2, P10.3: a cartridge without RAM has none, whatever its head's number
// and its registers are.
func TestNoRam(t *testing.T) {
	for _, kind := range []uint8{0, 1, 15, 17, 25, 28} {
		for ram := range uint8(6) {
			c := small(t, kind, ram)
			told(c, 0, 10, 0xA000, 5, 0xBFFF, 6)
			wantRead(t, c, 0xA000, 255)
			wantRead(t, c, 0xBFFF, 255)
			if len(c.Ram()) != 0 {
				t.Errorf("kind %d, ram %d: a RAM", kind, ram)
			}
		}
	}
	for _, kind := range withRam {
		c := small(t, kind, 0)
		told(c, 0, 10, 0xA000, 5)
		wantRead(t, c, 0xA000, 255)
		if len(c.Ram()) != 0 {
			t.Errorf("kind %d: a RAM", kind)
		}
	}
}

// P10.2, P10.3: at all other places there is nothing, and nothing is done.
func TestElsewhere(t *testing.T) {
	for _, kind := range allKinds {
		c := small(t, kind, 3)
		told(c, 0, 10, 0x4000, 8)
		ticks(c, 3)
		was := whole(c)
		for addr := 0x8000; addr < 0x10000; addr++ {
			if 0xA000 <= addr && addr < 0xC000 {
				continue
			}
			told(c, addr, 0, addr, 1, addr, 10)
			wantRead(t, c, uint16(addr), 255)
		}
		if whole(c) != was {
			t.Errorf("kind %d has changed", kind)
		}
	}
}

// P10.2 to P10.4: the chapter's example.
func TestClockByHand(t *testing.T) {
	for _, kind := range withClock {
		c := small(t, kind, 2)
		told(c, 0, 10, 0x4000, 8)
		c.Tick()
		wantRead(t, c, 0xA000, 0)
		told(c, 0x6000, 0, 0x6000, 1)
		wantRead(t, c, 0xA000, 1)
		wantRead(t, c, 0xBFFF, 1)
		wantState(t, c, api.Mapper{Kind: api.Map3, Open: true, Ram: 8}, api.Clock{Sec: 1}, api.Clock{Sec: 1})
		ticks(c, 3661)
		wantRead(t, c, 0xA000, 1)
		told(c, 0x7FFF, 0, 0x7FFF, 1)
		for i, want := range []uint8{2, 1, 1, 0, 0} {
			c.Write(0x4000, uint8(8+i))
			wantRead(t, c, 0xA000, want)
		}
	}
}

// P10.3: the clock is held just by a 1 behind a 0.
func TestHoldPairs(t *testing.T) {
	for _, kind := range withClock {
		for first := range 256 {
			for second := range 256 {
				c := put(t, made(t, kind, 0, 0, 0))
				c.Tick()
				told(c, 0x6000, first, 0x7FFF, second)
				want := api.Clock{}
				if first == 0 && second == 1 {
					want.Sec = 1
				}
				if got := clocksOf(c); got != [2]api.Clock{{Sec: 1}, want} {
					t.Fatalf("%d, %d: %+v", first, second, got)
				}
			}
		}
	}
}

// P10.3: what comes between, and where it is written. Behind each pair of a
// row a second is over.
func TestHoldRows(t *testing.T) {
	for _, c := range []struct {
		row  []int
		held uint8
	}{
		{[]int{0x6000, 1}, 0},
		{[]int{0x6000, 0}, 0},
		{[]int{0x6000, 0, 0x6000, 1}, 1},
		{[]int{0x6000, 0, 0x6000, 0, 0x6000, 1}, 2},
		{[]int{0x6000, 0, 0x6000, 1, 0x6000, 1}, 1},
		{[]int{0x6000, 0, 0x6000, 2, 0x6000, 1}, 0},
		{[]int{0x6000, 0, 0x6000, 1, 0x6000, 0, 0x6000, 1}, 3},
		{[]int{0x6000, 0, 0x6000, 1, 0x6000, 0}, 1},
		{[]int{0x6000, 0, 0x6000, 255, 0x6000, 0, 0x6000, 1}, 3},
		{[]int{0x6000, 0, 0x6000, 3}, 0},
		{[]int{0x6000, 0, 0x6000, 129}, 0},
		{[]int{0x6000, 2, 0x6000, 1}, 0},
		{[]int{0x6000, 16, 0x6000, 1}, 0},
		// What is written elsewhere doesn't count, nor does it come between.
		{[]int{0x5FFF, 0, 0x6000, 1}, 0},
		{[]int{0x8000, 0, 0x6000, 1}, 0},
		{[]int{0x6000, 0, 0x5FFF, 1}, 0},
		{[]int{0x6000, 0, 0x8000, 1}, 0},
		{[]int{0x6000, 0, 0x5FFF, 7, 0x8000, 7, 0x6000, 1}, 3},
		{[]int{0x6000, 0, 0, 10, 0x2000, 3, 0xA000, 7, 0x7000, 1}, 4},
		{[]int{0x7FFF, 0, 0x6000, 1}, 1},
	} {
		k := small(t, 16, 2)
		for i := 0; i < len(c.row); i += 2 {
			told(k, c.row[i:i+2]...)
			k.Tick()
		}
		want := [2]api.Clock{{Sec: uint8(len(c.row) / 2)}, {Sec: c.held}}
		if got := clocksOf(k); got != want {
			t.Errorf("%x: %+v, not %+v", c.row, got, want)
		}
	}
}

// P10.3: a Map1's Mode is told at these places, too, but no clock is held.
func TestHoldWithoutClock(t *testing.T) {
	for _, kind := range allKinds {
		if slices.Contains(withClock, kind) {
			continue
		}
		c := small(t, kind, 3)
		c.Tick()
		told(c, 0x6000, 0, 0x6000, 1)
		c.Tick()
		if got := clocksOf(c); got != [2]api.Clock{} {
			t.Errorf("kind %d: %+v", kind, got)
		}
		if m, _, _ := c.State(); m.Mode != (m.Kind == api.Map1) {
			t.Errorf("kind %d: %+v", kind, m)
		}
	}
}

// P10.3: each byte into each register goes to the clock that goes alone.
func TestClockWrite(t *testing.T) {
	for _, kind := range withClock {
		c := small(t, kind, 2)
		c.Write(0, 10)
		for i, mask := range masks {
			reg := 8 + i
			c.Write(0x4000, uint8(reg))
			for v := range 256 {
				was := clocksOf(c)
				held := c.Read(0xA000)
				c.Write(uint16(0xA000+v*31), uint8(v))
				wantRead(t, c, 0xA000, held)
				now := clocksOf(c)
				if got, e := clock.Read(now[0], reg); e != api.OK || got != uint8(v)&mask || now[1] != was[1] {
					t.Fatalf("%d to %d: %+v", v, reg, now)
				}
				told(c, 0x6000, 0, 0x6000, 1)
				wantRead(t, c, 0xA000, uint8(v)&mask)
				wantRead(t, c, 0xBFFF, uint8(v)&mask)
			}
		}
		if !bytes.Equal(c.Ram(), make([]byte, c.Head().Size)) {
			t.Errorf("kind %d: the RAM was written", kind)
		}
	}
}

// P10.2, P10.3: what is held is told, not what goes, of all registers.
func TestHeldIsRead(t *testing.T) {
	c := small(t, 15, 0)
	c.Write(0, 10)
	for i, v := range []int{61, 62, 30, 200, 0xC1} {
		told(c, 0x4000, 8+i, 0xA000, v)
	}
	told(c, 0x6000, 0, 0x6000, 1)
	for i := range masks {
		told(c, 0x4000, 8+i, 0xA000, 0)
	}
	wantState(t, c, api.Mapper{Kind: api.Map3, Open: true, Ram: 12}, api.Clock{}, api.Clock{Sec: 61, Min: 62, Hour: 30, Day: 456, Halt: true, Carry: true})
	for i, want := range []uint8{61, 62, 30, 200, 0xC1} {
		c.Write(0x4000, uint8(8+i))
		wantRead(t, c, 0xA000, want)
	}
}

// P10.2, P10.3: registers stand there only where the chip is open.
func TestClockShut(t *testing.T) {
	c := small(t, 16, 2)
	told(c, 0x4000, 8, 0xA000, 7)
	wantRead(t, c, 0xA000, 255)
	if got := clocksOf(c); got != [2]api.Clock{} {
		t.Errorf("%+v", got)
	}
	// To hold a clock it needn't be open.
	c.Tick()
	told(c, 0x6000, 0, 0x6000, 1, 0, 10)
	wantRead(t, c, 0xA000, 1)
}

// P10.2, P10.3: a chip's numbers from 8 on, with a clock and without.
func TestNumbersOfRegisters(t *testing.T) {
	for ram := 8; ram <= 15; ram++ {
		for _, kind := range []uint8{15, 16, 17, 18, 19} {
			c := small(t, kind, 3)
			told(c, 0, 10, 0x4000, ram, 0xA000, 1, 0x6000, 0, 0x6000, 1)
			want := uint8(255)
			if ram <= 12 && slices.Contains(withClock, kind) {
				want = 1
			}
			wantRead(t, c, 0xA000, want)
			if (clocksOf(c) == [2]api.Clock{}) != (want == 255) || !bytes.Equal(c.Ram(), make([]byte, c.Head().Size)) {
				t.Errorf("kind %d, number %d", kind, ram)
			}
		}
		// Of a Map5 these are banks of the RAM.
		c := small(t, 27, 4)
		told(c, 0, 10, 0x4000, ram, 0xA000, 3)
		wantRead(t, c, 0xA000, 3)
		if c.Ram()[ram*8192] != 3 {
			t.Errorf("Map5, bank %d", ram)
		}
	}
}

// P10.4: a second later, where there is a clock.
func TestTick(t *testing.T) {
	for _, kind := range allKinds {
		c := small(t, kind, 2)
		ticks(c, 3725)
		want := [2]api.Clock{}
		if slices.Contains(withClock, kind) {
			want[0] = api.Clock{Sec: 5, Min: 2, Hour: 1}
		}
		if got := clocksOf(c); got != want {
			t.Errorf("kind %d: %+v", kind, got)
		}
	}
}

// P10.4: the end of all days, odd values, and a Halt.
func TestTickEdges(t *testing.T) {
	c := small(t, 15, 0)
	c.Write(0, 10)
	set := func(values ...int) {
		for i, v := range values {
			told(c, 0x4000, 8+i, 0xA000, v)
		}
		c.Tick()
	}
	m := api.Mapper{Kind: api.Map3, Open: true, Ram: 12}
	set(59, 59, 23, 255, 1)
	wantState(t, c, m, api.Clock{Carry: true}, api.Clock{})
	set(63, 5, 0, 0, 0)
	wantState(t, c, m, api.Clock{Min: 5}, api.Clock{})
	set(59, 59, 23, 255, 0x41)
	wantState(t, c, m, api.Clock{Sec: 59, Min: 59, Hour: 23, Day: 511, Halt: true}, api.Clock{})
	// The held one stands still, whatever the other does.
	told(c, 0x6000, 0, 0x6000, 1)
	set(1, 2, 3, 4, 0)
	wantState(t, c, m, api.Clock{Sec: 2, Min: 2, Hour: 3, Day: 4}, api.Clock{Sec: 59, Min: 59, Hour: 23, Day: 511, Halt: true})
}

// P10.4, P10.5, R3: what is told is the caller's own.
func TestCopiesAreTheCallersOwn(t *testing.T) {
	for _, kind := range allKinds {
		c := small(t, kind, 2)
		told(c, 0, 10, 0xA000, 5)
		was := whole(c)
		for _, b := range [][]byte{c.Ram(), c.Save()} {
			kept := bytes.Clone(b)
			c.Write(0xA000, 6)
			if !bytes.Equal(b, kept) {
				t.Errorf("kind %d: a copy goes on", kind)
			}
			c.Write(0xA000, 5)
			for i := range b {
				b[i] = 99
			}
			if whole(c) != was {
				t.Errorf("kind %d: a RAM is shared", kind)
			}
		}
	}
}

// P10.5: what each kind saves.
func TestSaveSizes(t *testing.T) {
	for _, kind := range allKinds {
		for ram, size := range ramBytes {
			c := small(t, kind, uint8(ram))
			want := 0
			if slices.Contains(withBattery, kind) {
				if slices.Contains(withRam, kind) {
					want = size
				}
				if slices.Contains(withClock, kind) {
					want += 10
				}
			}
			if got := c.Save(); !bytes.Equal(got, make([]byte, want)) {
				t.Errorf("kind %d, ram %d: %d bytes, not %d", kind, ram, len(got), want)
			}
		}
	}
}

// P10.5: RAM, then the clock that goes, then the held one.
func TestSaveByHand(t *testing.T) {
	c := small(t, 16, 1)
	told(c, 0, 10, 0xA000, 5, 0xA7FF, 6)
	for i, v := range []int{1, 2, 3, 44, 0xC1} {
		told(c, 0x4000, 8+i, 0xA000, v)
	}
	told(c, 0x6000, 0, 0x6000, 1)
	for i, v := range []int{59, 58, 22, 255, 0} {
		told(c, 0x4000, 8+i, 0xA000, v)
	}
	c.Tick()
	want := make([]byte, 2048)
	want[0], want[2047] = 5, 6
	want = append(want, 0, 59, 22, 255, 0, 1, 2, 3, 44, 0xC1)
	if got := c.Save(); !bytes.Equal(got, want) {
		t.Errorf("%v", got[2040:])
	}
	// What is shut is saved as well.
	c.Write(0, 0)
	if !bytes.Equal(c.Save(), want) {
		t.Error("shut")
	}
}

// wantLoad fails if bytes aren't refused that way, or if that changes a thing.
func wantLoad(t *testing.T, c *Cart, b []byte, want api.Errno) {
	t.Helper()
	was := whole(c)
	kept := bytes.Clone(b)
	if e := c.Load(b); e != want {
		t.Errorf("kind %d, Load of %d bytes: %d, not %d", c.Head().Kind, len(b), e, want)
	}
	if whole(c) != was || !bytes.Equal(b, kept) {
		t.Errorf("kind %d, Load of %d bytes changed something", c.Head().Kind, len(b))
	}
}

// used is a cartridge that has been at work.
func used(t *testing.T, kind, ram uint8) *Cart {
	t.Helper()
	c := small(t, kind, ram)
	told(c, 0, 10, 0xA000, 5, 0xB000, 6, 0x4000, 8, 0xA000, 33, 0x6000, 0, 0x6000, 1, 0x2000, 3)
	c.Tick()
	return c
}

// P10.5: nothing is loaded where there is no battery, whatever the bytes.
func TestLoadWithoutBattery(t *testing.T) {
	for _, kind := range allKinds {
		if slices.Contains(withBattery, kind) {
			continue
		}
		c := used(t, kind, 2)
		for _, n := range []int{0, 1, 10, 8192, 8202} {
			wantLoad(t, c, bytes.Repeat([]byte{255}, n), api.ErrNone)
		}
		wantLoad(t, c, c.Ram(), api.ErrNone)
		wantLoad(t, c, nil, api.ErrNone)
	}
}

// P10.5: a length that may not be comes ahead of what the bytes say.
func TestLoadWrongSizes(t *testing.T) {
	for _, kind := range withBattery {
		for ram := range uint8(4) {
			c := used(t, kind, ram)
			right := len(c.Save())
			for _, n := range []int{0, 1, 9, 10, 11, 2047, 2048, 2049, 2057, 2058, 2059, 8191, 8192, 8193, 8202, 8203, right - 10, right - 1, right + 1, right + 10, 2 * right} {
				if n >= 0 && n != right {
					wantLoad(t, c, bytes.Repeat([]byte{255}, n), api.ErrSize)
					wantLoad(t, c, make([]byte, n), api.ErrSize)
				}
			}
		}
	}
}

// P10.5: each byte at each place of the clocks.
func TestLoadWrongClocks(t *testing.T) {
	for _, kind := range withClock {
		c := used(t, kind, 1)
		size := c.Head().Size
		for at := range 10 {
			for v := range 256 {
				b := bytes.Repeat([]byte{7}, size)
				b = append(b, 1, 2, 3, 4, 65, 5, 6, 7, 8, 129)
				b[size+at] = byte(v)
				if byte(v)&^masks[at%5] != 0 {
					wantLoad(t, c, b, api.ErrText)
					continue
				}
				d := used(t, kind, 1)
				if e := d.Load(b); e != api.OK || !bytes.Equal(d.Save(), b) {
					t.Errorf("kind %d, %d at %d: %d", kind, v, at, e)
				}
			}
		}
	}
}

// P10.5: the bytes' RAM and clocks, and nothing else.
func TestLoadByHand(t *testing.T) {
	c := used(t, 16, 1)
	m, _, _ := c.State()
	head := c.Head()
	b := make([]byte, 2058)
	for i := range 2048 {
		b[i] = uint8(i * 3)
	}
	copy(b[2048:], []byte{1, 2, 3, 44, 0x41, 59, 60, 31, 255, 0x80})
	if e := c.Load(b); e != api.OK {
		t.Fatal(e)
	}
	wantState(t, c, m, api.Clock{Sec: 1, Min: 2, Hour: 3, Day: 300, Halt: true}, api.Clock{Sec: 59, Min: 60, Hour: 31, Day: 255, Carry: true})
	if !bytes.Equal(c.Ram(), b[:2048]) || c.Head() != head {
		t.Error("another RAM or head")
	}
	wantRead(t, c, 0xA000, 59)
}

// P10.5, R3: nothing is shared with what was handed in.
func TestLoadCopies(t *testing.T) {
	for _, kind := range withBattery {
		c := used(t, kind, 2)
		b := used(t, kind, 2).Save()
		kept := bytes.Clone(b)
		if e := c.Load(b); e != api.OK {
			t.Fatalf("kind %d: %d", kind, e)
		}
		told(c, 0, 10, 0x4000, 0, 0xA000, 77)
		if !bytes.Equal(b, kept) {
			t.Errorf("kind %d: what was handed in has changed", kind)
		}
		was := whole(c)
		for i := range b {
			b[i] = 99
		}
		if whole(c) != was {
			t.Errorf("kind %d: the RAM is shared", kind)
		}
	}
}

// P10.5: a battery with nothing to keep, and with a clock alone.
func TestLoadSmallest(t *testing.T) {
	for _, kind := range []uint8{9, 3, 19, 27, 30} {
		c := small(t, kind, 0)
		if len(c.Save()) != 0 || c.Load(nil) != api.OK || c.Load([]byte{}) != api.OK {
			t.Errorf("kind %d", kind)
		}
		wantLoad(t, c, []byte{0}, api.ErrSize)
	}
	c := small(t, 15, 5)
	if e := c.Load([]byte{1, 0, 0, 0, 0, 2, 0, 0, 0, 0}); e != api.OK {
		t.Error(e)
	}
	wantState(t, c, api.Mapper{Kind: api.Map3}, api.Clock{Sec: 1}, api.Clock{Sec: 2})
}

// P10.5: the registers stay, and what was last written to hold the clock.
func TestLoadKeepsRegisters(t *testing.T) {
	for _, last := range []int{0, 1, 255} {
		c := small(t, 16, 2)
		told(c, 0, 10, 0x2000, 9, 0x4000, 10, 0x6000, last)
		b := c.Save()
		b[8192] = 42
		if e := c.Load(b); e != api.OK {
			t.Fatal(e)
		}
		m := api.Mapper{Kind: api.Map3, Open: true, Low: 9, Ram: 10}
		wantState(t, c, m, api.Clock{Sec: 42}, api.Clock{})
		c.Write(0x6000, 1)
		held := api.Clock{}
		if last == 0 {
			held.Sec = 42
		}
		wantState(t, c, m, api.Clock{Sec: 42}, held)
	}
}

// stir does things by chance to a cartridge.
func stir(r *rand.Rand, c *Cart, n int) {
	for range n {
		switch r.Intn(8) {
		case 0:
			ticks(c, r.Intn(100))
		case 1:
			c.Write(uint16(r.Intn(0x2000)), 10)
		case 2:
			c.Write(uint16(0x4000+r.Intn(0x2000)), uint8(r.Intn(16)))
		case 3:
			c.Write(uint16(0x6000+r.Intn(0x2000)), uint8(r.Intn(2)))
		case 4, 5, 6:
			c.Write(uint16(0xA000+r.Intn(0x2000)), uint8(r.Intn(256)))
		default:
			c.Write(uint16(r.Intn(65536)), uint8(r.Intn(256)))
		}
	}
}

// P10.6, P2: what was saved is loaded, whatever was done ahead.
func TestSavedIsLoaded(t *testing.T) {
	r := rand.New(rand.NewSource(106))
	for _, kind := range withBattery {
		for ram := range uint8(6) {
			image := made(t, kind, 1, ram, 300)
			c, d, fresh := put(t, image), put(t, image), put(t, image)
			stir(r, c, 3000)
			stir(r, d, 3000)
			m, _, _ := d.State()
			_, live, held := c.State()
			saved := c.Save()
			if d.Load(saved) != api.OK || fresh.Load(saved) != api.OK {
				t.Fatalf("kind %d, ram %d", kind, ram)
			}
			wantState(t, d, m, live, held)
			wantState(t, fresh, api.Mapper{Kind: m.Kind}, live, held)
			for _, x := range []*Cart{d, fresh} {
				if !bytes.Equal(x.Ram(), c.Ram()) || !bytes.Equal(x.Save(), saved) {
					t.Errorf("kind %d, ram %d: another RAM", kind, ram)
				}
			}
		}
	}
}

// P10.6: a RAM that isn't open keeps its bytes.
func TestShutRamKeeps(t *testing.T) {
	for _, kind := range withRam {
		c := small(t, kind, 2)
		if m, _, _ := c.State(); m.Kind == api.MapNone {
			continue
		}
		c.Write(0, 10)
		for i := range 0x2000 {
			c.Write(uint16(0xA000+i), uint8(i))
		}
		kept := c.Ram()
		for v := range 256 {
			if v%16 == 10 {
				continue
			}
			told(c, 0, 10, 0x1FFF, v)
			for i := 0; i < 0x2000; i += 61 {
				c.Write(uint16(0xA000+i), 99)
				wantRead(t, c, uint16(0xA000+i), 255)
			}
		}
		if !bytes.Equal(c.Ram(), kept) {
			t.Errorf("kind %d: the RAM has changed", kind)
		}
		c.Write(0, 10)
		for i := range 0x2000 {
			wantRead(t, c, uint16(0xA000+i), uint8(i))
		}
	}
}

// P10.6: nothing that is written changes the image.
func TestImageStays(t *testing.T) {
	r := rand.New(rand.NewSource(1066))
	for _, kind := range allKinds {
		image := made(t, kind, 0, 2, 32768-336)
		c := put(t, image)
		head := c.Head()
		for addr := range 0x10000 {
			c.Write(uint16(addr), image[addr%len(image)]+1)
		}
		stir(r, c, 5000)
		told(c, 0x2000, 1, 0x3000, 0, 0x4000, 0, 0x6000, 0)
		for addr := range 0x8000 {
			wantRead(t, c, uint16(addr), image[addr])
		}
		if c.Head() != head {
			t.Errorf("kind %d: another head", kind)
		}
	}
}

// Nobody's, P1: none of the calls panics, answers or does anything.
func TestNobodys(t *testing.T) {
	var none *Cart
	for _, c := range []*Cart{none, {}, new(Cart)} {
		for range 2 {
			for _, addr := range edges {
				told(c, int(addr), 10, int(addr), 0, int(addr), 1)
				wantRead(t, c, addr, 255)
			}
			c.Tick()
			for _, b := range [][]byte{nil, {}, {1}, make([]byte, 10), make([]byte, 8192)} {
				if e := c.Load(b); e != api.ErrNone {
					t.Errorf("Load: %d", e)
				}
			}
			if c.Head() != (api.Header{}) || len(c.Ram()) != 0 || len(c.Save()) != 0 {
				t.Error("somebody's")
			}
			wantState(t, c, api.Mapper{}, api.Clock{}, api.Clock{})
		}
	}
	if zero := (Cart{}); whole(&zero) != whole(nil) {
		t.Error("a zero one has something")
	}
}

// model is a cartridge as the chapter tells it, out of the layers below.
type model struct {
	h          api.Header
	image, ram []byte
	m          api.Mapper
	live, held api.Clock
	last       int
}

func (k *model) read(addr uint16) uint8 {
	window := 0xA000 <= addr && addr <= 0xBFFF
	switch {
	case addr < 0x8000:
		return k.image[mapper.Rom(k.m, addr, len(k.image))]
	case window && k.h.Clock && mapper.Reg(k.m, addr) != 0:
		v, _ := clock.Read(k.held, mapper.Reg(k.m, addr))
		return v
	case window && mapper.Ram(k.m, addr, len(k.ram)) != -1:
		return k.ram[mapper.Ram(k.m, addr, len(k.ram))]
	}
	return 255
}

func (k *model) write(addr uint16, v uint8) {
	window := 0xA000 <= addr && addr <= 0xBFFF
	switch {
	case addr < 0x8000:
		k.m = mapper.Write(k.m, addr, v)
		if k.h.Clock && 0x6000 <= addr {
			if v == 1 && k.last == 0 {
				k.held = k.live
			}
			k.last = int(v)
		}
	case window && k.h.Clock && mapper.Reg(k.m, addr) != 0:
		k.live, _ = clock.Write(k.live, mapper.Reg(k.m, addr), v)
	case window && mapper.Ram(k.m, addr, len(k.ram)) != -1:
		k.ram[mapper.Ram(k.m, addr, len(k.ram))] = v
	}
}

func (k *model) tick() {
	if k.h.Clock {
		k.live = clock.Tick(k.live)
	}
}

func (k *model) save() []byte {
	if !k.h.Battery {
		return nil
	}
	if !k.h.Clock {
		return bytes.Clone(k.ram)
	}
	return slices.Concat(k.ram, clock.Bytes(k.live, k.held))
}

// anyWrite is a place and a byte by chance, mostly such that something comes
// of it.
func anyWrite(r *rand.Rand) (uint16, uint8) {
	v := uint8(r.Intn(256))
	switch r.Intn(8) {
	case 0:
		return uint16(r.Intn(0x2000)), []uint8{10, 10, 10, 10, 0x1A, 0, v}[r.Intn(7)]
	case 1:
		return uint16(0x4000 + r.Intn(0x2000)), uint8(r.Intn(16))
	case 2:
		return uint16(0x6000 + r.Intn(0x2000)), uint8(r.Intn(3))
	case 3, 4, 5:
		return uint16(0xA000 + r.Intn(0x2000)), v
	case 6:
		return edges[r.Intn(len(edges))], v
	}
	return uint16(r.Intn(65536)), v
}

// same fails if a cartridge isn't as the model.
func (k *model) same(t *testing.T, c *Cart) {
	t.Helper()
	wantState(t, c, k.m, k.live, k.held)
	if !bytes.Equal(c.Ram(), k.ram) || !bytes.Equal(c.Save(), k.save()) || c.Head() != k.h {
		t.Fatalf("kind %d: another RAM, save or head", k.h.Kind)
	}
}

// P10.1 to P10.6: long runs by chance, of each kind and RAM.
func TestRunsByChance(t *testing.T) {
	for _, kind := range allKinds {
		for ram := range uint8(6) {
			r := rand.New(rand.NewSource(int64(kind)*10 + int64(ram)))
			image := made(t, kind, 2, ram, r.Intn(131072-335))
			c := put(t, image)
			h, _ := header.Parse(image)
			k := &model{h: h, image: image, ram: make([]byte, h.Size), m: api.Mapper{Kind: h.Mapper}, last: 255}
			for range 10000 {
				addr, v := anyWrite(r)
				c.Write(addr, v)
				k.write(addr, v)
				if r.Intn(3) == 0 {
					c.Tick()
					k.tick()
				}
				for _, at := range []uint16{addr, edges[r.Intn(len(edges))], uint16(r.Intn(65536))} {
					if got, want := c.Read(at), k.read(at); got != want {
						t.Fatalf("kind %d, ram %d: Read(%04X): %d, not %d", kind, ram, at, got, want)
					}
				}
				if r.Intn(1000) == 0 {
					k.same(t, c)
				}
			}
			k.same(t, c)
		}
	}
}
