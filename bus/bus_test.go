package bus

import (
	"bytes"
	"math/rand"
	"testing"

	"whirligig/api"
)

// bools are both.
var bools = []bool{false, true}

// places is how many there are.
const places = 65536

// bounds are the regions' first and last places, with their neighbors.
var bounds = []uint16{
	0x0000, 0x0001, 0x3FFF, 0x4000, 0x7FFE, 0x7FFF,
	0x8000, 0x8001, 0x9FFE, 0x9FFF,
	0xA000, 0xA001, 0xBFFE, 0xBFFF,
	0xC000, 0xC001, 0xDDFF, 0xDE00, 0xDFFE, 0xDFFF,
	0xE000, 0xE001, 0xFDFE, 0xFDFF,
	0xFE00, 0xFE01, 0xFE9E, 0xFE9F,
	0xFEA0, 0xFEA1, 0xFEFE, 0xFEFF,
	0xFF00, 0xFF01, 0xFF0F, 0xFF7E, 0xFF7F,
	0xFF80, 0xFF81, 0xFFFD, 0xFFFE,
	0xFFFF,
}

// regionOf is what Region must answer, by the chapter's words.
func regionOf(addr int) (int, int) {
	switch {
	case addr <= 0x7FFF:
		return api.RegRom, addr
	case addr <= 0x9FFF:
		return api.RegVram, addr - 0x8000
	case addr <= 0xBFFF:
		return api.RegRam, addr - 0xA000
	case addr <= 0xDFFF:
		return api.RegWram, addr - 0xC000
	case addr <= 0xFDFF:
		return api.RegWram, addr - 0xE000
	case addr <= 0xFE9F:
		return api.RegOam, addr - 0xFE00
	case addr <= 0xFEFF:
		return api.RegNone, addr - 0xFEA0
	case addr <= 0xFF7F:
		return api.RegIo, addr - 0xFF00
	case addr <= 0xFFFE:
		return api.RegHram, addr - 0xFF80
	}
	return api.RegIe, 0
}

// lineOf is what Line must answer.
func lineOf(addr int) int {
	switch region, _ := regionOf(addr); region {
	case api.RegVram:
		return 1
	case api.RegRom, api.RegRam, api.RegWram:
		return 0
	}
	return 2
}

// keeps tells whether a place has a byte of the machine's own.
func keeps(addr int) bool {
	switch region, _ := regionOf(addr); region {
	case api.RegVram, api.RegWram, api.RegOam, api.RegHram:
		return true
	}
	return false
}

// model is a memory by the chapter's words: a byte by its region and the place
// within.
type model map[[2]int]uint8

func (m model) get(addr int) uint8 {
	if !keeps(addr) {
		return 255
	}
	region, at := regionOf(addr)
	return m[[2]int{region, at}]
}

func (m model) put(addr int, v uint8) {
	if keeps(addr) {
		region, at := regionOf(addr)
		m[[2]int{region, at}] = v
	}
}

func (m model) object(at, v uint8) {
	if at <= 159 {
		m[[2]int{api.RegOam, int(at)}] = v
	}
}

// wantAll fails if a memory isn't at each place what the model says, or if its
// copies aren't.
func wantAll(t *testing.T, got *Memory, want model) {
	t.Helper()
	for addr := range places {
		if v := got.Get(uint16(addr)); v != want.get(addr) {
			t.Fatalf("Get(%04X): %d, not %d", addr, v, want.get(addr))
		}
	}
	wantCopy(t, got.Vram(), 8192, 0x8000, want)
	wantCopy(t, got.Oam(), 160, 0xFE00, want)
}

// wantCopy fails if bytes aren't those that the model has from a place on.
func wantCopy(t *testing.T, got []byte, size, from int, want model) {
	t.Helper()
	if len(got) != size {
		t.Fatalf("a copy of %04X and on: %d bytes, not %d", from, len(got), size)
	}
	for n, v := range got {
		if v != want.get(from+n) {
			t.Fatalf("byte %d of the copy of %04X and on: %d, not %d", n, from, v, want.get(from+n))
		}
	}
}

// filled is a memory whose bytes were all put by chance, and its model.
func filled(r *rand.Rand) (*Memory, model) {
	m, want := New(), model{}
	for addr := range places {
		v := uint8(r.Intn(256))
		m.Put(uint16(addr), v)
		want.put(addr, v)
	}
	return m, want
}

// P20.1: written out, each region's first and last place.
func TestRegionByHand(t *testing.T) {
	for _, w := range []struct {
		addr             uint16
		region, at, line int
	}{
		{0xE005, api.RegWram, 5, 0}, // the chapter's examples
		{0xFF80, api.RegHram, 0, 2},
		{0x9000, api.RegVram, 4096, 1},
		{0xFE00, api.RegOam, 0, 2},
		{0x0000, api.RegRom, 0, 0},
		{0x3FFF, api.RegRom, 16383, 0},
		{0x4000, api.RegRom, 16384, 0},
		{0x7FFF, api.RegRom, 32767, 0},
		{0x8000, api.RegVram, 0, 1},
		{0x9FFF, api.RegVram, 8191, 1},
		{0xA000, api.RegRam, 0, 0},
		{0xBFFF, api.RegRam, 8191, 0},
		{0xC000, api.RegWram, 0, 0},
		{0xDFFF, api.RegWram, 8191, 0},
		{0xE000, api.RegWram, 0, 0},
		{0xFDFF, api.RegWram, 7679, 0},
		{0xFE9F, api.RegOam, 159, 2},
		{0xFEA0, api.RegNone, 0, 2},
		{0xFEFF, api.RegNone, 95, 2},
		{0xFF00, api.RegIo, 0, 2},
		{0xFF7F, api.RegIo, 127, 2},
		{0xFFFE, api.RegHram, 126, 2},
		{0xFFFF, api.RegIe, 0, 2},
	} {
		region, at := Region(w.addr)
		if line := Line(w.addr); region != w.region || at != w.at || line != w.line {
			t.Errorf("%04X: %d, %d, wires %d, not %d, %d, %d", w.addr, region, at, line, w.region, w.at, w.line)
		}
	}
}

// P20.1: each place.
func TestRegionAndLine(t *testing.T) {
	for addr := range places {
		region, at := regionOf(addr)
		if got, within := Region(uint16(addr)); got != region || within != at {
			t.Fatalf("Region(%04X): %d, %d, not %d, %d", addr, got, within, region, at)
		}
		if got := Line(uint16(addr)); got != lineOf(addr) {
			t.Fatalf("Line(%04X): %d, not %d", addr, got, lineOf(addr))
		}
	}
}

// P20.4: each region's places are told once, but for those of RegWram that have
// another place; none is left out.
func TestRegionTellsEachPlaceOnce(t *testing.T) {
	told := map[[2]int]int{}
	for addr := range places {
		region, at := Region(uint16(addr))
		told[[2]int{region, at}]++
	}
	sizes := []int{32768, 8192, 8192, 8192, 160, 96, 128, 127, 1}
	all := 0
	for region, size := range sizes {
		all += size
		for at := range size {
			want := 1
			if region == api.RegWram && at < 7680 {
				want = 2
			}
			if got := told[[2]int{region, at}]; got != want {
				t.Fatalf("place %d of region %d: told %d times, not %d", at, region, got, want)
			}
		}
	}
	if len(told) != all {
		t.Errorf("%d places are told, not %d", len(told), all)
	}
}

// P20.2: each place, whoever else asks.
func TestShut(t *testing.T) {
	for addr := range places {
		region, _ := regionOf(addr)
		for _, vram := range bools {
			for _, oam := range bools {
				for _, copies := range bools {
					want := region == api.RegVram && vram || (region == api.RegOam || region == api.RegNone) && (oam || copies)
					if got := Shut(uint16(addr), vram, oam, copies); got != want {
						t.Fatalf("Shut(%04X, %v, %v, %v): %v", addr, vram, oam, copies, got)
					}
				}
			}
		}
	}
}

// P20.2: written out.
func TestMeetsByHand(t *testing.T) {
	for _, w := range []struct {
		addr, src    uint16
		copies, want bool
	}{
		{0xC000, 0x4000, true, true}, // the chapter's example
		{0xC000, 0x4000, false, false},
		{0x0000, 0x0000, true, true},
		{0xA000, 0xDFFF, true, true},
		{0xFDFF, 0x0000, true, true},
		{0x8000, 0x9FFF, true, true},
		{0x8000, 0x9FFF, false, false},
		{0x8000, 0x7FFF, true, false},
		{0x8000, 0xA000, true, false},
		{0x7FFF, 0x8000, true, false},
		{0xFE00, 0xC000, true, false},
		{0xC000, 0xFE00, true, false},
		{0xFF80, 0xFF80, true, false},
		{0xFFFF, 0xFE00, true, false},
		{0xFF80, 0x8000, true, false},
	} {
		if got := Meets(w.addr, w.src, w.copies); got != w.want {
			t.Errorf("Meets(%04X, %04X, %v): %v", w.addr, w.src, w.copies, got)
		}
	}
}

// P20.2: each place against those where a region begins or ends, either way.
func TestMeets(t *testing.T) {
	for addr := range places {
		line := lineOf(addr)
		for _, other := range bounds {
			same := line != 2 && line == lineOf(int(other))
			for _, copies := range bools {
				if got := Meets(uint16(addr), other, copies); got != (copies && same) {
					t.Fatalf("Meets(%04X, %04X, %v): %v", addr, other, copies, got)
				}
				if got := Meets(other, uint16(addr), copies); got != (copies && same) {
					t.Fatalf("Meets(%04X, %04X, %v): %v", other, addr, copies, got)
				}
			}
		}
	}
}

// P20.3: a memory of zeros; 255 where the machine has no byte of its own.
func TestNew(t *testing.T) {
	wantAll(t, New(), model{})
}

// P20.3: written out.
func TestMemoryByHand(t *testing.T) {
	m := New()
	m.Put(0xC000, 7)
	if got := m.Get(0xE000); got != 7 { // the chapter's example
		t.Errorf("Get(E000): %d, not 7", got)
	}
	m.Put(0xFDFF, 8)
	m.Put(0xDE00, 9)
	m.Put(0x8000, 10)
	m.Put(0x9FFF, 11)
	m.Put(0xFE00, 12)
	m.Object(159, 13)
	m.Object(160, 14)
	m.Object(255, 15)
	m.Put(0xFF80, 16)
	m.Put(0xFFFE, 17)
	for _, addr := range []uint16{0x0000, 0x7FFF, 0xA000, 0xBFFF, 0xFEA0, 0xFEFF, 0xFF00, 0xFF7F, 0xFFFF} {
		m.Put(addr, 18)
	}
	for _, w := range []struct {
		addr uint16
		want uint8
	}{
		{0xC000, 7}, {0xC001, 0}, {0xDDFF, 8}, {0xFDFF, 8}, {0xDE00, 9}, {0xDFFF, 0},
		{0x8000, 10}, {0x9FFF, 11}, {0xFE00, 12}, {0xFE9F, 13}, {0xFE9E, 0}, {0xFF80, 16}, {0xFFFE, 17},
		{0x0000, 255}, {0x7FFF, 255}, {0xA000, 255}, {0xBFFF, 255}, {0xFEA0, 255}, {0xFEFF, 255}, {0xFF00, 255}, {0xFF7F, 255}, {0xFFFF, 255},
	} {
		if got := m.Get(w.addr); got != w.want {
			t.Errorf("Get(%04X): %d, not %d", w.addr, got, w.want)
		}
	}
}

// P20.3, P20.4: at the bounds, a byte that is put changes its own place, and
// its other one, and no third.
func TestPutIsSeenNowhereElse(t *testing.T) {
	r := rand.New(rand.NewSource(201))
	m, want := filled(r)
	for _, addr := range bounds {
		v := m.Get(addr) + 1 + uint8(r.Intn(255))
		m.Put(addr, v)
		want.put(int(addr), v)
		wantAll(t, m, want)
	}
}

// P20.3, P20.4: each byte at each place is got there.
func TestPutAndGet(t *testing.T) {
	m := New()
	for addr := range places {
		for v := range 256 {
			m.Put(uint16(addr), uint8(v))
			want := uint8(255)
			if keeps(addr) {
				want = uint8(v)
			}
			if got := m.Get(uint16(addr)); got != want {
				t.Fatalf("%d put at %04X: %d", v, addr, got)
			}
		}
	}
}

// P20.4: a byte's two places, whichever it is put at.
func TestOtherPlace(t *testing.T) {
	m := New()
	for at := range 0x1E00 {
		low, high := uint16(0xC000+at), uint16(0xE000+at)
		m.Put(low, uint8(at*7+1))
		if got := m.Get(high); got != uint8(at*7+1) {
			t.Fatalf("%04X behind a Put at %04X: %d", high, low, got)
		}
		m.Put(high, uint8(at*11+3))
		if got := m.Get(low); got != uint8(at*11+3) {
			t.Fatalf("%04X behind a Put at %04X: %d", low, high, got)
		}
	}
}

// P20.3: each number of an object's byte, also those that there aren't.
func TestObject(t *testing.T) {
	r := rand.New(rand.NewSource(202))
	for at := range 256 {
		m, want := New(), model{}
		v := uint8(1 + r.Intn(255))
		m.Object(uint8(at), v)
		want.object(uint8(at), v)
		wantAll(t, m, want)
	}
}

// P20.3, R3: copies are the caller's own, and stay as they were.
func TestCopiesAreTheCallersOwn(t *testing.T) {
	m, want := filled(rand.New(rand.NewSource(203)))
	for _, told := range []func() []byte{m.Vram, m.Oam} {
		first, second := told(), told()
		for n := range first {
			first[n]++
		}
		_ = append(first, 1, 2, 3)
		for n := range first {
			if first[n] != second[n]+1 {
				t.Fatalf("byte %d of two copies: %d, %d", n, first[n], second[n])
			}
		}
		wantAll(t, m, want)
	}
	vram, oam := m.Vram(), m.Oam()
	keptVram, keptOam := bytes.Clone(vram), bytes.Clone(oam)
	for addr := range places {
		m.Put(uint16(addr), ^m.Get(uint16(addr)))
	}
	m.Object(3, 3)
	if !bytes.Equal(vram, keptVram) || !bytes.Equal(oam, keptOam) {
		t.Error("a copy was changed by a Put")
	}
}

// R4: memories have nothing in common.
func TestMemoriesAreApart(t *testing.T) {
	m, want := filled(rand.New(rand.NewSource(204)))
	other := New()
	wantAll(t, other, model{})
	other.Put(0xC000, ^m.Get(0xC000))
	other.Object(0, ^m.Get(0xFE00))
	wantAll(t, m, want)
}

// P20.3: nobody's memories.
func TestNobodysMemory(t *testing.T) {
	for _, m := range []*Memory{nil, {}, new(Memory)} {
		for range 2 {
			for addr := range places {
				m.Put(uint16(addr), 7)
				if got := m.Get(uint16(addr)); got != 255 {
					t.Fatalf("Get(%04X): %d, not 255", addr, got)
				}
			}
			for at := range 256 {
				m.Object(uint8(at), 7)
			}
			if got := m.Vram(); got != nil {
				t.Fatalf("Vram: %d bytes", len(got))
			}
			if got := m.Oam(); got != nil {
				t.Fatalf("Oam: %d bytes", len(got))
			}
		}
		if m != nil && *m != (Memory{}) {
			t.Error("something was done to a memory that no New gave")
		}
	}
}

// P20.3, P20.4: by chance, against the model.
func TestMemoryByChance(t *testing.T) {
	r := rand.New(rand.NewSource(205))
	m, want := New(), model{}
	for n := range 200000 {
		addr := uint16(r.Intn(places))
		if r.Intn(2) == 0 {
			addr = bounds[r.Intn(len(bounds))]
		}
		v := uint8(r.Intn(256))
		switch r.Intn(4) {
		case 0:
			m.Object(uint8(addr), v)
			want.object(uint8(addr), v)
		case 1:
			if got := m.Get(addr); got != want.get(int(addr)) {
				t.Fatalf("Get(%04X): %d, not %d", addr, got, want.get(int(addr)))
			}
		default:
			m.Put(addr, v)
			want.put(int(addr), v)
		}
		if n%50000 == 0 {
			wantAll(t, m, want)
		}
	}
	wantAll(t, m, want)
}
