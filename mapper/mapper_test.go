package mapper

import (
	"math"
	"math/rand"
	"testing"

	"whirligig/api"
)

// edges are the places at which something ends or begins, and some between.
var edges = []uint16{
	0, 1, 0x0FFF, 0x1000, 0x1FFF, 0x2000, 0x2001, 0x2FFF, 0x3000, 0x3FFF, 0x4000, 0x4001, 0x4FFF, 0x5000, 0x5FFF, 0x6000, 0x6FFF,
	0x7000, 0x7FFF, 0x8000, 0x9FFF, 0xA000, 0xA001, 0xAFFF, 0xB000, 0xBFFF, 0xC000, 0xDFFF, 0xE000, 0xFFFF,
}

// allKinds are the four, and numbers that are none.
var allKinds = []int{api.MapNone, api.Map1, api.Map3, api.Map5, 2, 4, 6, -1, -5, 255, 257, math.MaxInt, math.MinInt}

// numbers are some that a register may hold, within its width or not.
var numbers = []uint8{0, 1, 2, 3, 4, 7, 8, 9, 11, 12, 13, 15, 16, 31, 32, 33, 64, 127, 128, 129, 254, 255}

// begun is a mapper at its beginning.
func begun(t *testing.T, kind int) api.Mapper {
	t.Helper()
	m, e := New(kind)
	if e != api.OK {
		t.Fatalf("New(%d): %d", kind, e)
	}
	return m
}

// every calls f with mappers of all kinds, within their widths or not.
func every(f func(api.Mapper)) {
	for _, kind := range allKinds {
		for n := range 4 {
			for _, low := range numbers {
				for _, high := range numbers {
					for _, ram := range numbers {
						f(api.Mapper{Kind: kind, Open: n&1 == 1, Mode: n&2 == 2, Low: low, High: high, Ram: ram})
					}
				}
			}
		}
	}
}

// P8.1
func TestNew(t *testing.T) {
	for _, kind := range []int{0, 1, 3, 5} {
		if m, e := New(kind); e != api.OK || m != (api.Mapper{Kind: kind}) {
			t.Errorf("New(%d): %+v, %d", kind, m, e)
		}
	}
	wrong := []int{math.MinInt, math.MinInt32, math.MaxInt32, math.MaxInt, 256, 257, 65537, 1 << 32, 1<<32 + 1}
	for kind := -300; kind < 300; kind++ {
		if kind != 0 && kind != 1 && kind != 3 && kind != 5 {
			wrong = append(wrong, kind)
		}
	}
	for _, kind := range wrong {
		if m, e := New(kind); e != api.ErrKind || m != (api.Mapper{}) {
			t.Errorf("New(%d): %+v, %d", kind, m, e)
		}
	}
}

// register is what stands at a run of places: the last one, the field, and how
// much of a byte goes into it.
type register struct {
	last  int
	field string
	width int // bits of the byte that count
}

// registers are the chapter's list once more.
var registers = map[int][]register{
	api.Map1: {{0x1FFF, "open", 4}, {0x3FFF, "low", 5}, {0x5FFF, "high", 2}, {0x7FFF, "mode", 1}},
	api.Map3: {{0x1FFF, "open", 4}, {0x3FFF, "low", 7}, {0x5FFF, "ram", 4}},
	api.Map5: {{0x1FFF, "open", 8}, {0x2FFF, "low", 8}, {0x3FFF, "high", 1}, {0x5FFF, "ram", 4}},
}

// written is what Write must answer.
func written(m api.Mapper, addr uint16, v uint8) api.Mapper {
	for _, r := range registers[m.Kind] {
		if int(addr) > r.last {
			continue
		}
		part := int(v) % (1 << r.width)
		switch r.field {
		case "open":
			m.Open = part == 10
		case "low":
			m.Low = uint8(part)
		case "high":
			m.High = uint8(part)
		case "ram":
			m.Ram = uint8(part)
		case "mode":
			m.Mode = part == 1
		}
		return m
	}
	return m
}

// wantWritten fails if a write does another thing.
func wantWritten(t *testing.T, m api.Mapper, addr uint16, v uint8) {
	t.Helper()
	if got, want := Write(m, addr, v), written(m, addr, v); got != want {
		t.Errorf("%d to %04X of %+v: %+v, not %+v", v, addr, m, got, want)
	}
}

// P8.2: each byte at each edge, of registers that are empty and full.
func TestWrite(t *testing.T) {
	for _, kind := range allKinds {
		for _, addr := range edges {
			for v := range 256 {
				wantWritten(t, api.Mapper{Kind: kind}, addr, uint8(v))
				wantWritten(t, api.Mapper{Kind: kind, Open: true, Mode: true, Low: 255, High: 255, Ram: 255}, addr, uint8(v))
				wantWritten(t, api.Mapper{Kind: kind, Open: true, Low: 17, High: 34, Ram: 51}, addr, uint8(v))
			}
		}
	}
}

// P8.2: each place.
func TestWriteEverywhere(t *testing.T) {
	for _, kind := range allKinds {
		for addr := range 65536 {
			for _, v := range []uint8{0, 10, 255} {
				wantWritten(t, api.Mapper{Kind: kind, Mode: true, Low: 100, High: 101, Ram: 102}, uint16(addr), v)
			}
		}
	}
}

// P8.2: the fifth kind looks at all of a byte, the others at its half.
func TestWriteOpen(t *testing.T) {
	for v := range 256 {
		for kind, want := range map[int]bool{api.MapNone: false, api.Map1: v%16 == 10, api.Map3: v%16 == 10, api.Map5: v == 10} {
			open := begun(t, kind)
			open.Open = kind != api.MapNone
			if Write(begun(t, kind), 0x1234, uint8(v)).Open != want || Write(open, 0x1234, uint8(v)).Open != want {
				t.Errorf("kind %d, %d", kind, v)
			}
		}
	}
}

// bankAt is what Bank must answer.
func bankAt(m api.Mapper, addr uint16) int {
	low, high := int(m.Low), int(m.High)
	lowOr1 := low
	if low == 0 {
		lowOr1 = 1
	}
	half := int(addr) / 16384
	if half > 1 {
		return 0
	}
	switch {
	case m.Kind == 1 && half == 1:
		return high*32 + lowOr1
	case m.Kind == 1 && m.Mode:
		return high * 32
	case m.Kind == 1 || m.Kind == 3 && half == 0 || m.Kind == 5 && half == 0:
		return 0
	case m.Kind == 3:
		return lowOr1
	case m.Kind == 5:
		return high*256 + low
	}
	return half
}

// P8.3
func TestBank(t *testing.T) {
	every(func(m api.Mapper) {
		for _, addr := range edges {
			if got, want := Bank(m, addr), bankAt(m, addr); got != want {
				t.Fatalf("Bank(%+v, %04X): %d, not %d", m, addr, got, want)
			}
		}
	})
}

// P8.3: each Low of each kind, and a Low of 0.
func TestBankOfLow(t *testing.T) {
	for low := range 256 {
		l := uint8(low)
		for _, c := range []struct {
			m    api.Mapper
			want int
		}{
			{api.Mapper{Kind: api.MapNone, Low: l, High: l}, 1},
			{api.Mapper{Kind: api.Map1, Low: l, High: 2}, 64 + max(1, low)},
			{api.Mapper{Kind: api.Map1, Low: l, High: 255, Mode: true}, 8160 + max(1, low)},
			{api.Mapper{Kind: api.Map3, Low: l, High: 3, Ram: 9}, max(1, low)},
			{api.Mapper{Kind: api.Map5, Low: l, Mode: true}, low},
			{api.Mapper{Kind: api.Map5, Low: l, High: 1}, 256 + low},
			{api.Mapper{Kind: api.Map5, Low: l, High: 255}, 65280 + low},
		} {
			for _, addr := range []uint16{0x4000, 0x5555, 0x7FFF} {
				if got := Bank(c.m, addr); got != c.want {
					t.Errorf("Bank(%+v, %04X): %d, not %d", c.m, addr, got, c.want)
				}
			}
		}
	}
}

// P8.3: each place of a kind that has banks in both halves.
func TestBankEverywhere(t *testing.T) {
	m := api.Mapper{Kind: api.Map1, Mode: true, High: 3, Low: 5}
	for addr := range 65536 {
		want := []int{96, 101, 0, 0}[addr/16384]
		if got := Bank(m, uint16(addr)); got != want {
			t.Fatalf("Bank at %04X: %d, not %d", addr, got, want)
		}
	}
}

// sizes are bytes of images and RAMs, and some that none has.
var sizes = []int{1, 2, 3, 336, 2048, 8191, 8192, 8193, 16384, 32768, 65536, 131072, 49152, 1 << 20, 1<<23 - 1, 1 << 23, 1 << 40, math.MaxInt}

// nothing are sizes of nothing.
var nothing = []int{0, -1, -2, -8192, -16384, math.MinInt32, math.MinInt}

// P8.4
func TestRom(t *testing.T) {
	chance := rand.New(rand.NewSource(84))
	every(func(m api.Mapper) {
		for range 3 {
			addr := edges[chance.Intn(len(edges))]
			size := sizes[chance.Intn(len(sizes))]
			want := -1
			if addr < 0x8000 {
				want = (bankAt(m, addr)*16384 + int(addr&0x3FFF)) % size
			}
			if got := Rom(m, addr, size); got != want {
				t.Fatalf("Rom(%+v, %04X, %d): %d, not %d", m, addr, size, got, want)
			}
		}
	})
}

// P8.4: where there is no place.
func TestRomNowhere(t *testing.T) {
	for _, kind := range allKinds {
		m := api.Mapper{Kind: kind, Open: true, Mode: true, Low: 1, High: 1}
		for addr := range 65536 {
			if got := Rom(m, uint16(addr), 1<<23); (got == -1) != (addr > 0x7FFF) {
				t.Fatalf("Rom of kind %d at %04X: %d", kind, addr, got)
			}
		}
		for _, addr := range edges {
			for _, size := range nothing {
				if got := Rom(m, addr, size); got != -1 {
					t.Errorf("Rom of kind %d at %04X of %d: %d", kind, addr, size, got)
				}
			}
		}
	}
}

// ramPlace is what Ram must answer.
func ramPlace(m api.Mapper, addr uint16, size int) int {
	bank, open := 0, m.Open
	switch m.Kind {
	case 1:
		if m.Mode {
			bank = int(m.High)
		}
	case 3:
		bank, open = int(m.Ram), open && m.Ram < 8
	case 5:
		bank = int(m.Ram)
	default:
		open = true
	}
	if size <= 0 || addr>>13 != 5 || !open {
		return -1
	}
	return (bank*8192 + int(addr&0x1FFF)) % size
}

// P8.5
func TestRam(t *testing.T) {
	chance := rand.New(rand.NewSource(85))
	every(func(m api.Mapper) {
		for range 3 {
			addr := edges[chance.Intn(len(edges))]
			size := sizes[chance.Intn(len(sizes))]
			if got, want := Ram(m, addr, size), ramPlace(m, addr, size); got != want {
				t.Fatalf("Ram(%+v, %04X, %d): %d, not %d", m, addr, size, got, want)
			}
		}
	})
}

// P8.5: each bank of each kind.
func TestRamBanks(t *testing.T) {
	const all = 1 << 30
	for n := range 256 {
		v := uint8(n)
		third := 8192*n + 5
		if n > 7 {
			third = -1
		}
		for _, c := range []struct {
			m    api.Mapper
			want int
		}{
			{api.Mapper{Kind: api.MapNone, Ram: v, High: v, Mode: true}, 5},
			{api.Mapper{Kind: 2, Ram: v, High: v, Mode: true}, 5},
			{api.Mapper{Kind: api.Map1, Open: true, High: v, Ram: 77}, 5},
			{api.Mapper{Kind: api.Map1, Open: true, High: v, Mode: true, Ram: 77}, 8192*n + 5},
			{api.Mapper{Kind: api.Map1, Open: false, High: v, Mode: true}, -1},
			{api.Mapper{Kind: api.Map3, Open: true, Ram: v, High: 77, Mode: true}, third},
			{api.Mapper{Kind: api.Map3, Open: false, Ram: v}, -1},
			{api.Mapper{Kind: api.Map5, Open: true, Ram: v, High: 77, Mode: true}, 8192*n + 5},
			{api.Mapper{Kind: api.Map5, Open: false, Ram: v}, -1},
		} {
			if got := Ram(c.m, 0xA005, all); got != c.want {
				t.Errorf("Ram(%+v): %d, not %d", c.m, got, c.want)
			}
		}
	}
}

// P8.5: where there is no place.
func TestRamNowhere(t *testing.T) {
	for _, kind := range allKinds {
		m := api.Mapper{Kind: kind, Open: true, Mode: true, High: 1, Ram: 1}
		for addr := range 65536 {
			inside := 0xA000 <= addr && addr <= 0xBFFF
			if got := Ram(m, uint16(addr), 8192); (got != -1) != inside || inside && got != addr-0xA000 {
				t.Fatalf("Ram of kind %d at %04X: %d", kind, addr, got)
			}
		}
		for _, addr := range edges {
			for _, size := range nothing {
				if got := Ram(m, addr, size); got != -1 {
					t.Errorf("Ram of kind %d at %04X of %d: %d", kind, addr, size, got)
				}
			}
		}
	}
}

// P8.6
func TestReg(t *testing.T) {
	every(func(m api.Mapper) {
		for _, addr := range edges {
			want := 0
			if m.Kind == 3 && m.Open && addr>>13 == 5 && m.Ram/8 == 1 && m.Ram < 13 {
				want = int(m.Ram)
			}
			if got := Reg(m, addr); got != want {
				t.Fatalf("Reg(%+v, %04X): %d, not %d", m, addr, got, want)
			}
		}
	})
}

// P8.6: each number, and each place.
func TestRegEverywhere(t *testing.T) {
	for n := range 256 {
		want := map[int]int{8: 8, 9: 9, 10: 10, 11: 11, 12: 12}[n]
		m := api.Mapper{Kind: api.Map3, Open: true, Ram: uint8(n)}
		if got := Reg(m, 0xA000); got != want {
			t.Errorf("Reg of %d: %d", n, got)
		}
		m.Open = false
		if got := Reg(m, 0xA000); got != 0 {
			t.Errorf("Reg of %d, not open: %d", n, got)
		}
	}
	for addr := range 65536 {
		m := api.Mapper{Kind: api.Map3, Open: true, Ram: 12}
		if got := Reg(m, uint16(addr)); (got == 12) != (0xA000 <= addr && addr <= 0xBFFF) || got != 0 && got != 12 {
			t.Fatalf("Reg at %04X: %d", addr, got)
		}
	}
}

// P8.7: RAM and a register never stand at one place.
func TestNeverBoth(t *testing.T) {
	every(func(m api.Mapper) {
		for _, addr := range edges {
			if Reg(m, addr) != 0 && Ram(m, addr, 8192) != -1 {
				t.Fatalf("%+v at %04X", m, addr)
			}
		}
	})
}

// wantWidths fails if a register holds more than its kind lets in.
func wantWidths(t *testing.T, m api.Mapper) {
	t.Helper()
	most := map[int]api.Mapper{
		api.MapNone: {},
		api.Map1:    {Low: 31, High: 3},
		api.Map3:    {Low: 127, Ram: 15},
		api.Map5:    {Low: 255, High: 1, Ram: 15},
	}[m.Kind]
	if m.Low > most.Low || m.High > most.High || m.Ram > most.Ram || m.Mode && m.Kind != api.Map1 || m.Open && m.Kind == api.MapNone {
		t.Fatalf("wider than it may be: %+v", m)
	}
}

// P8.7: whatever is written from New on, registers keep their widths, places
// lie within the size, and banks go round in powers of 2.
func TestWhatFollows(t *testing.T) {
	chance := rand.New(rand.NewSource(87))
	for _, kind := range []int{api.MapNone, api.Map1, api.Map3, api.Map5} {
		m := begun(t, kind)
		for range 100000 {
			m = Write(m, uint16(chance.Intn(65536)), uint8(chance.Intn(256)))
			wantWidths(t, m)
			addr, size := uint16(chance.Intn(65536)), 1+chance.Intn(1<<17)
			if at := Rom(m, addr, size); at < -1 || at >= size {
				t.Fatalf("Rom(%+v, %04X, %d): %d", m, addr, size, at)
			}
			if at := Ram(m, addr, size); at < -1 || at >= size {
				t.Fatalf("Ram(%+v, %04X, %d): %d", m, addr, size, at)
			}
			banks := 2 << chance.Intn(9)
			if at := Rom(m, addr, banks*16384); addr < 0x8000 && at/16384 != Bank(m, addr)%banks {
				t.Fatalf("Rom(%+v, %04X) of %d banks: %d", m, addr, banks, at)
			}
		}
	}
}

// TestExamples are the chapter's.
func TestExamples(t *testing.T) {
	one := Write(begun(t, api.Map1), 0x2000, 0)
	if Bank(one, 0x4000) != 1 {
		t.Error("0 stands for 1")
	}
	one = Write(one, 0x4000, 3)
	if Bank(one, 0x4000) != 97 || Bank(one, 0) != 0 || Bank(Write(one, 0x6000, 1), 0) != 96 {
		t.Error("banks of Map1")
	}
	if five := Write(begun(t, api.Map5), 0x3000, 1); Bank(five, 0x4000) != 256 {
		t.Error("banks of Map5")
	}
	three := Write(Write(begun(t, api.Map3), 0, 10), 0x4000, 9)
	if Reg(three, 0xA000) != 9 || Ram(three, 0xA000, 8192) != -1 {
		t.Error("a register of Map3")
	}
}
