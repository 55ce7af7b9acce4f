package tiles

import (
	"math"
	"math/rand"
	"slices"
	"sync"
	"testing"
)

// bools are both.
var bools = []bool{false, true}

// far are numbers that no pixel, tile and place has, and such as come round when
// they are cut to fewer bits or reckoned with.
var far = []int{
	math.MinInt, math.MinInt + 1, math.MinInt + 7, math.MinInt + 8, math.MinInt32, -1 << 32, -65536, -384, -257, -256, -255, -128, -16, -9, -8, -7, -2, -1,
	6144, 8192, 65536, 65537, 1 << 32, 1<<32 + 5, 1 << 58, 1 << 59, 1<<59 + 1, 1 << 60, math.MaxInt - 8, math.MaxInt - 7, math.MaxInt - 1, math.MaxInt,
}

// digit is a number's binary digit.
func digit(v uint8, place int) uint8 {
	for range place {
		v /= 2
	}
	return v % 2
}

// pixelOf is what Pixel must answer: each pixel in turn is looked for.
func pixelOf(lo, hi uint8, n int) uint8 {
	for k := range 8 {
		if k == n {
			return 2*digit(hi, 7-k) + digit(lo, 7-k)
		}
	}
	return 0
}

// moduloOf is a row modulo 8, from 0 to 7.
func moduloOf(row int) int {
	m := row % 8
	if m < 0 {
		m += 8
	}
	return m
}

// placeOf is what Place must answer.
func placeOf(tile uint8, signed bool, row int) int {
	n := int(tile)
	if !signed {
		return 16*n + 2*moduloOf(row)
	}
	if n > 127 {
		n -= 256
	}
	return 16*n + 2*moduloOf(row) + 4096
}

// atOf is what At must answer: each place in turn is looked for.
func atOf(vram []byte, i int) uint8 {
	for k, v := range vram {
		if k == i {
			return v
		}
	}
	return 255
}

// colorOf is what Color must answer.
func colorOf(vram []byte, tile, x, y int) uint8 {
	if tile < 0 || tile > 383 || x < 0 || x > 7 || y < 0 || y > 7 {
		return 0
	}
	return pixelOf(atOf(vram[:min(len(vram), 6144)], 16*tile+2*y), atOf(vram[:min(len(vram), 6144)], 16*tile+2*y+1), x)
}

// memory is one of n bytes by chance.
func memory(r *rand.Rand, n int) []byte {
	vram := make([]byte, n)
	r.Read(vram)
	return vram
}

// P17.1: written out.
func TestPixelsByHand(t *testing.T) {
	for _, w := range []struct {
		lo, hi uint8
		want   [8]uint8
	}{
		{60, 126, [8]uint8{0, 2, 3, 3, 3, 3, 2, 0}},
		{0, 0, [8]uint8{}},
		{255, 0, [8]uint8{1, 1, 1, 1, 1, 1, 1, 1}},
		{0, 255, [8]uint8{2, 2, 2, 2, 2, 2, 2, 2}},
		{255, 255, [8]uint8{3, 3, 3, 3, 3, 3, 3, 3}},
		{128, 0, [8]uint8{1}},
		{0, 128, [8]uint8{2}},
		{1, 0, [8]uint8{7: 1}},
		{0, 1, [8]uint8{7: 2}},
		{0x55, 0x33, [8]uint8{0, 1, 2, 3, 0, 1, 2, 3}},
	} {
		if got := Row(w.lo, w.hi); got != w.want {
			t.Errorf("Row(%d, %d): %v", w.lo, w.hi, got)
		}
		for n, want := range w.want {
			if got := Pixel(w.lo, w.hi, n); got != want {
				t.Errorf("Pixel(%d, %d, %d): %d", w.lo, w.hi, n, got)
			}
		}
	}
}

// P17.1, P17.5: each two bytes; they are found again in their pixels.
func TestPixelsEach(t *testing.T) {
	for lo := range 256 {
		for hi := range 256 {
			row := Row(uint8(lo), uint8(hi))
			low, high := 0, 0
			for n, c := range row {
				if want := pixelOf(uint8(lo), uint8(hi), n); c != want || Pixel(uint8(lo), uint8(hi), n) != want {
					t.Fatalf("%d, %d, pixel %d: %d, not %d", lo, hi, n, c, want)
				}
				if c > 3 {
					t.Fatalf("%d, %d: color %d", lo, hi, c)
				}
				low, high = 2*low+int(c)%2, 2*high+int(c)/2
			}
			if low != lo || high != hi {
				t.Fatalf("%d, %d: found again as %d, %d", lo, hi, low, high)
			}
		}
	}
}

// P17.1, P1: pixels that a row hasn't.
func TestPixelFar(t *testing.T) {
	for _, v := range []uint8{0, 1, 128, 255} {
		for n := -300; n < 300; n++ {
			if n < 0 || n > 7 {
				if got := Pixel(v, 255, n); got != 0 {
					t.Fatalf("Pixel(%d, 255, %d): %d", v, n, got)
				}
			}
		}
		for _, n := range far {
			if got := Pixel(v, v, n); got != 0 {
				t.Errorf("Pixel(%d, %d, %d): %d", v, v, n, got)
			}
		}
	}
}

// P17.2: written out.
func TestPlaceByHand(t *testing.T) {
	for _, w := range []struct {
		tile   uint8
		signed bool
		row    int
		want   int
	}{
		{1, false, 3, 22}, {255, true, 0, 4080}, {0, false, 0, 0}, {0, true, 0, 4096}, {0, true, 9, 4098}, {0, false, -1, 14}, {0, false, -8, 0},
		{127, true, 7, 6142}, {128, true, 0, 2048}, {127, false, 7, 2046}, {128, false, 0, 2048}, {255, false, 7, 4094}, {255, true, 7, 4094},
		{5, false, 8, 80}, {5, false, 15, 94}, {5, true, -9, 4190}, {1, false, math.MaxInt, 30}, {1, false, math.MinInt, 16}, {1, true, math.MinInt + 1, 4114},
	} {
		if got := Place(w.tile, w.signed, w.row); got != w.want {
			t.Errorf("%+v: %d", w, got)
		}
	}
}

// P17.2, P1: each tile, both ways of counting, rows within, beside and far off.
func TestPlaceEach(t *testing.T) {
	for tile := range 256 {
		for _, signed := range bools {
			for row := -40; row < 300; row++ {
				if got, want := Place(uint8(tile), signed, row), placeOf(uint8(tile), signed, row); got != want {
					t.Fatalf("Place(%d, %v, %d): %d, not %d", tile, signed, row, got, want)
				}
			}
			for _, row := range far {
				if got, want := Place(uint8(tile), signed, row), placeOf(uint8(tile), signed, row); got != want {
					t.Fatalf("Place(%d, %v, %d): %d, not %d", tile, signed, row, got, want)
				}
			}
		}
	}
}

// P17.5: every place is within the memory, ahead of the maps, and unlike tiles
// and rows stand at unlike places.
func TestPlacesUnlike(t *testing.T) {
	for _, signed := range bools {
		seen := map[int]int{}
		for tile := range 256 {
			for row := range 8 {
				at := Place(uint8(tile), signed, row)
				if at < 0 || at+1 >= 6144 || at%2 != 0 {
					t.Fatalf("tile %d, row %d: %d", tile, row, at)
				}
				seen[at]++
				if seen[at] > 1 {
					t.Fatalf("tile %d, row %d: %d once more", tile, row, at)
				}
			}
		}
	}
	// The two ways share the tiles from 128 to 255, and no others.
	for a := range 256 {
		for b := range 256 {
			if same := Place(uint8(a), false, 0) == Place(uint8(b), true, 0); same != (a == b && a > 127) {
				t.Fatalf("tiles %d and %d: %v", a, b, same)
			}
		}
	}
}

// P17.2: written out.
func TestCellByHand(t *testing.T) {
	for _, w := range []struct {
		high bool
		x, y uint8
		want int
	}{
		{true, 8, 16, 7233}, {false, 0, 0, 6144}, {true, 0, 0, 7168}, {false, 255, 255, 7167}, {true, 255, 255, 8191}, {false, 7, 7, 6144},
		{false, 8, 7, 6145}, {false, 7, 8, 6176}, {false, 248, 0, 6175}, {false, 0, 248, 7136}, {true, 247, 15, 7230},
	} {
		if got := Cell(w.high, w.x, w.y); got != w.want {
			t.Errorf("%+v: %d", w, got)
		}
	}
}

// P17.2, P17.5: each place of both maps: cells of 8 times 8 pixels, one behind
// the other, of which each is there.
func TestCellEach(t *testing.T) {
	seen := map[int]int{}
	for _, high := range bools {
		for row := range 32 {
			for column := range 32 {
				want := 6144 + 32*row + column
				if high {
					want += 1024
				}
				for y := 8 * row; y < 8*row+8; y++ {
					for x := 8 * column; x < 8*column+8; x++ {
						if got := Cell(high, uint8(x), uint8(y)); got != want {
							t.Fatalf("Cell(%v, %d, %d): %d, not %d", high, x, y, got, want)
						}
					}
				}
				seen[want]++
			}
		}
	}
	if len(seen) != 2048 {
		t.Errorf("%d cells", len(seen))
	}
}

// P17.3: written out.
func TestShadeByHand(t *testing.T) {
	for _, w := range []struct{ palette, color, want uint8 }{
		{228, 0, 0}, {228, 1, 1}, {228, 2, 2}, {228, 3, 3}, {27, 0, 3}, {27, 1, 2}, {27, 2, 1}, {27, 3, 0},
		{228, 7, 3}, {228, 4, 0}, {228, 254, 2}, {228, 255, 3}, {192, 3, 3}, {192, 2, 0}, {3, 0, 3}, {3, 1, 0},
	} {
		if got := Shade(w.palette, w.color); got != w.want {
			t.Errorf("%+v: %d", w, got)
		}
	}
}

// P17.3, P17.5: each palette and color; its shades are found again, and 0 to 3.
func TestShadeEach(t *testing.T) {
	for palette := range 256 {
		for color := range 256 {
			low := 2 * (color % 4)
			want := digit(uint8(palette), low) + 2*digit(uint8(palette), low+1)
			if got := Shade(uint8(palette), uint8(color)); got != want || got > 3 {
				t.Fatalf("Shade(%d, %d): %d, not %d", palette, color, got, want)
			}
		}
		again := 0
		for color := 3; color >= 0; color-- {
			again = 4*again + int(Shade(uint8(palette), uint8(color)))
		}
		if again != palette {
			t.Fatalf("%d: found again as %d", palette, again)
		}
	}
}

// P17.3, P1, R2: each place of memories of any length, beside them and far off.
func TestAt(t *testing.T) {
	r := rand.New(rand.NewSource(171))
	for _, n := range []int{0, 1, 2, 16, 255, 256, 257, 8192} {
		vram := memory(r, n)
		// What stands behind the end, in the same memory, is no byte of it.
		vram = append(vram, 1, 2, 3)[:n]
		was := slices.Clone(vram)
		for i := range vram {
			if got := At(vram, i); got != vram[i] {
				t.Fatalf("%d bytes, at %d: %d, not %d", n, i, got, vram[i])
			}
		}
		for _, i := range append([]int{n, n + 1, n + 2, -n, -n - 1, 8193, 100000}, far...) {
			if i < 0 || i >= n {
				if got := At(vram, i); got != 255 {
					t.Errorf("%d bytes, at %d: %d", n, i, got)
				}
			}
		}
		if !slices.Equal(vram, was) {
			t.Errorf("%d bytes: changed", n)
		}
	}
	if At(nil, 0) != 255 || At(nil, -1) != 255 || At([]byte{}, 0) != 255 {
		t.Error("of nothing")
	}
}

// P17.4: written out; only the row's own bytes count.
func TestSheetByHand(t *testing.T) {
	vram := make([]byte, 32)
	vram[18], vram[19] = 60, 126
	s := NewSheet(vram)
	for x, want := range []uint8{0, 2, 3, 3, 3, 3, 2, 0} {
		if got := s.Color(1, x, 1); got != want {
			t.Errorf("pixel %d: %d, not %d", x, got, want)
		}
		for _, other := range [][2]int{{1, 0}, {1, 2}, {0, 1}, {0, 7}, {1, 7}} {
			if got := s.Color(other[0], x, other[1]); got != 0 {
				t.Errorf("tile %d, pixel %d of row %d: %d", other[0], x, other[1], got)
			}
		}
		if s.Color(2, x, 0) != 3 || s.Color(383, x, 7) != 3 {
			t.Errorf("pixel %d of tiles that the memory hasn't", x)
		}
	}
	if got := s.Asked(); got != 64 {
		t.Errorf("asked %d times", got)
	}
}

// P17.4: memories of any length, each pixel of each tile.
func TestSheetLengths(t *testing.T) {
	r := rand.New(rand.NewSource(172))
	for _, n := range []int{0, 1, 2, 3, 15, 16, 17, 4096, 6142, 6143, 6144, 6145, 7168, 8192, 20000} {
		vram := memory(r, n)
		// What stands behind the end, in the same memory, is no part of it.
		vram = append(vram, make([]byte, 40)...)[:n]
		s, asked := NewSheet(vram), 0
		for tile := range 384 {
			for y := range 8 {
				for x := range 8 {
					lo, hi := uint8(255), uint8(255)
					if i := 16*tile + 2*y; i < n {
						lo = vram[i]
					}
					if i := 16*tile + 2*y + 1; i < n {
						hi = vram[i]
					}
					asked++
					if got, want := s.Color(tile, x, y), pixelOf(lo, hi, x); got != want {
						t.Fatalf("%d bytes, tile %d, pixel %d of row %d: %d, not %d", n, tile, x, y, got, want)
					}
				}
			}
		}
		if s.Asked() != asked {
			t.Errorf("asked %d times, not %d", s.Asked(), asked)
		}
	}
	for _, s := range []*Sheet{NewSheet(nil), NewSheet([]byte{})} {
		if s.Color(0, 0, 0) != 3 || s.Color(383, 7, 7) != 3 || s.Color(384, 0, 0) != 0 || s.Asked() != 3 {
			t.Error("a sheet of nothing")
		}
	}
}

// P17.4, P17.2: a sheet's tiles stand where Place says.
func TestSheetPlaces(t *testing.T) {
	r := rand.New(rand.NewSource(173))
	vram := memory(r, 8192)
	s := NewSheet(vram)
	for n := range 256 {
		for y := range 8 {
			for _, signed := range bools {
				tile := n
				if signed && n < 128 {
					tile += 256
				}
				i := Place(uint8(n), signed, y)
				for x, want := range Row(At(vram, i), At(vram, i+1)) {
					if got := s.Color(tile, x, y); got != want {
						t.Fatalf("tile %d, pixel %d of row %d: %d, not %d", tile, x, y, got, want)
					}
				}
			}
		}
	}
}

// P17.4, P1: tiles, pixels and rows that aren't; each asking counts.
func TestSheetFar(t *testing.T) {
	full := make([]byte, 8192)
	for i := range full {
		full[i] = 255
	}
	s, asked := NewSheet(full), 0
	ask := func(tile, x, y int, want uint8) {
		t.Helper()
		asked++
		if got := s.Color(tile, x, y); got != want {
			t.Errorf("Color(%d, %d, %d): %d, not %d", tile, x, y, got, want)
		}
		if got := s.Asked(); got != asked {
			t.Errorf("asked %d times, not %d", got, asked)
		}
	}
	ask(384, 0, 0, 0)
	ask(383, 7, 7, 3)
	ask(383, 8, 7, 0)
	ask(383, 7, 8, 0)
	ask(0, -1, 0, 0)
	ask(0, 0, -1, 0)
	ask(-1, 0, 0, 0)
	ask(1, -8, 0, 0)
	ask(1, 0, -8, 0)
	ask(0, 16, 0, 0)
	ask(0, 0, 16, 0)
	ask(0, 0, 0, 3)
	for _, n := range append([]int{385, 400, 511, 512}, far...) {
		ask(n, 0, 0, 0)
		ask(5, n, 0, 0)
		ask(5, 0, n, 0)
		ask(n, n, n, 0)
	}
}

// P17.4, R3: a sheet is of the memory as it was when it was made, whether it was
// asked ahead of the change or not, and the memory stays as it is.
func TestSheetAsItWas(t *testing.T) {
	r := rand.New(rand.NewSource(174))
	for _, early := range bools {
		vram := memory(r, 6144)
		was := slices.Clone(vram)
		s := NewSheet(vram)
		if early {
			s.Color(0, 0, 0)
		}
		if !slices.Equal(vram, was) {
			t.Fatal("the memory was changed")
		}
		for i := range vram {
			vram[i] ^= 255
		}
		later := NewSheet(vram)
		for tile := range 384 {
			for y := range 8 {
				for x := range 8 {
					if got, want := s.Color(tile, x, y), colorOf(was, tile, x, y); got != want {
						t.Fatalf("early %v, tile %d, pixel %d of row %d: %d, not %d", early, tile, x, y, got, want)
					}
					if got, want := later.Color(tile, x, y), 3-colorOf(was, tile, x, y); got != want {
						t.Fatalf("the later one, tile %d, pixel %d of row %d: %d, not %d", tile, x, y, got, want)
					}
				}
			}
		}
	}
}

// P17.4, R4: each sheet counts for itself, and asking how often doesn't count.
func TestSheetsApart(t *testing.T) {
	a, b := NewSheet([]byte{128}), NewSheet([]byte{0, 0})
	if a.Asked() != 0 || b.Asked() != 0 {
		t.Error("nobody asked yet")
	}
	for range 5 {
		a.Color(0, 0, 0)
	}
	b.Color(0, 0, 0)
	if a.Asked() != 5 || a.Asked() != 5 || b.Asked() != 1 {
		t.Errorf("asked %d and %d times", a.Asked(), b.Asked())
	}
	if a.Color(0, 0, 0) != 3 || a.Color(0, 1, 0) != 2 || b.Color(0, 0, 0) != 0 {
		t.Error("the one's pixels aren't the other's")
	}
	if NewSheet([]byte{128}).Asked() != 0 {
		t.Error("a new one was asked")
	}
}

// P17.4, P1: sheets that no NewSheet gave, however often they are asked.
func TestSheetOfNobody(t *testing.T) {
	var none *Sheet
	var empty Sheet
	for _, s := range []*Sheet{none, &empty, new(Sheet)} {
		for _, n := range append([]int{0, 1, 7, 8, 383, 384}, far...) {
			if s.Color(n, 0, 0) != 0 || s.Color(0, n, 0) != 0 || s.Color(0, 0, n) != 0 || s.Color(n, n, n) != 0 || s.Asked() != 0 {
				t.Errorf("%d: a sheet of nobody tells something", n)
			}
		}
	}
}

// P17.4: several ask at the same time: the pixels are those of the memory, and
// no asking is lost.
func TestSheetTogether(t *testing.T) {
	r := rand.New(rand.NewSource(175))
	for range 20 {
		vram := memory(r, 6144)
		s := NewSheet(vram)
		var all sync.WaitGroup
		wrong := make([]int, 8)
		for w := range wrong {
			all.Add(1)
			go func() {
				defer all.Done()
				for n := range 1000 {
					tile, x, y := (n*7+w*48)%384, n%8, (n/8)%8
					if s.Color(tile, x, y) != colorOf(vram, tile, x, y) {
						wrong[w]++
					}
				}
			}()
		}
		all.Wait()
		if !slices.Equal(wrong, make([]int, 8)) || s.Asked() != 8000 {
			t.Fatalf("%v wrong, asked %d times", wrong, s.Asked())
		}
	}
}
