package scan

import (
	"bytes"
	"math/rand"
	"slices"
	"sort"
	"strings"
	"testing"

	"whirligig/api"
)

// digit is a number's binary digit.
func digit(v uint8, place int) int {
	n := int(v)
	for range place {
		n /= 2
	}
	return n % 2
}

// byteOf is a memory's byte, or what is read where it has none.
func byteOf(mem []byte, i, none int) int {
	if i < len(mem) {
		return int(mem[i])
	}
	return none
}

// pixelOf is the pixel n of the row whose low byte stands at i.
func pixelOf(v api.Video, i, n int) int {
	lo, hi := byteOf(v.Vram, i, 255), byteOf(v.Vram, i+1, 255)
	return 2*digit(uint8(hi), 7-n) + digit(uint8(lo), 7-n)
}

// colorOf is the color of a cell's pixel, by the chapter's words.
func colorOf(v api.Video, high, a, b int) int {
	tile := byteOf(v.Vram, 6144+1024*high+b/8*32+a/8, 255)
	if digit(v.Ctl, 4) == 0 && tile < 128 {
		tile += 256
	}
	return pixelOf(v, 16*tile+2*(b%8), a%8)
}

// shownOf is what Window must answer.
func shownOf(v api.Video, y int) bool {
	return digit(v.Ctl, 0) == 1 && digit(v.Ctl, 5) == 1 && int(v.Wy) <= y && int(v.Wx) <= 166
}

// groundOf is the ground's color at x.
func groundOf(v api.Video, x, y, win int) int {
	switch {
	case digit(v.Ctl, 0) == 0:
		return 0
	case shownOf(v, y) && x+7 >= int(v.Wx):
		return colorOf(v, digit(v.Ctl, 6), x+7-int(v.Wx), win)
	}
	return colorOf(v, digit(v.Ctl, 3), (x+int(v.Scx))%256, (y+int(v.Scy))%256)
}

// objectsOf are the objects of a line, the one that stands ahead first.
func objectsOf(v api.Video, y int) [][4]int {
	rows := 8 + 8*digit(v.Ctl, 2)
	var l [][4]int
	for n := range 40 {
		var o [4]int
		for k := range o {
			o[k] = byteOf(v.Oam, 4*n+k, 0)
		}
		if y < 144 && len(l) < 10 && y+16 >= o[0] && y+16 < o[0]+rows {
			l = append(l, o)
		}
	}
	sort.SliceStable(l, func(i, k int) bool { return l[i][1] < l[k][1] })
	return l
}

// objectOf is the color and the Attr of the object that is seen at x.
func objectOf(v api.Video, l [][4]int, x, y int) (int, uint8) {
	rows := 8 + 8*digit(v.Ctl, 2)
	for _, o := range l {
		c, r, attr := x+8-o[1], y+16-o[0], uint8(o[3])
		if c < 0 || c > 7 {
			continue
		}
		if digit(attr, 5) == 1 {
			c = 7 - c
		}
		if digit(attr, 6) == 1 {
			r = rows - 1 - r
		}
		tile := o[2]
		if rows == 16 {
			tile = tile/2*2 + r/8
		}
		if color := pixelOf(v, 16*tile+2*(r%8), c); color != 0 {
			return color, attr
		}
	}
	return 0, 0
}

// shadeOf is a color by a palette.
func shadeOf(palette uint8, color int) uint8 {
	return uint8(digit(palette, 2*color) + 2*digit(palette, 2*color+1))
}

// lineOf is what Line must answer.
func lineOf(v api.Video, y, win int) ([]uint8, int) {
	var l [][4]int
	if digit(v.Ctl, 1) == 1 {
		l = objectsOf(v, y)
	}
	var line []uint8
	for x := range 160 {
		ground := groundOf(v, x, y, win)
		color, attr := objectOf(v, l, x, y)
		switch {
		case color != 0 && (digit(attr, 7) == 0 || ground == 0):
			palette := map[int]uint8{0: v.Obp0, 1: v.Obp1}[digit(attr, 4)]
			line = append(line, shadeOf(palette, color))
		case digit(v.Ctl, 0) == 0:
			line = append(line, 0)
		default:
			line = append(line, shadeOf(v.Bgp, ground))
		}
	}
	if shownOf(v, y) {
		win = (win + 1) % 256
	}
	return line, win
}

// frameOf is what Frame must answer.
func frameOf(l []api.Video) []uint8 {
	var picture []uint8
	win := 0
	for y := range 144 {
		line := make([]uint8, 160)
		if y < len(l) {
			line, win = lineOf(l[y], y, win)
		}
		picture = append(picture, line...)
	}
	return picture
}

// check holds a line against what it must be.
func check(t *testing.T, v api.Video, y, win uint8) {
	t.Helper()
	got, next := Line(v, y, win)
	want, then := lineOf(v, int(y), int(win))
	if !bytes.Equal(got, want) || int(next) != then {
		t.Fatalf("Ctl %08b Scy %d Scx %d Wy %d Wx %d, %d and %d bytes, line %d, win %d:\n%s, %d, not\n%s, %d",
			v.Ctl, v.Scy, v.Scx, v.Wy, v.Wx, len(v.Vram), len(v.Oam), y, win, Text(got), next, Text(want), then)
	}
}

// noise are n bytes by chance.
func noise(r *rand.Rand, n int) []byte {
	b := make([]byte, n)
	r.Read(b)
	return b
}

// chance is a record by chance: its objects stand near the line, and many of
// them at the same places, some of them with pixels that aren't seen.
func chance(r *rand.Rand, y uint8) api.Video {
	v := api.Video{
		Ctl: uint8(r.Intn(256)), Scy: uint8(r.Intn(256)), Scx: uint8(r.Intn(256)), Wy: uint8(r.Intn(256)), Wx: uint8(r.Intn(256)),
		Bgp: uint8(r.Intn(256)), Obp0: uint8(r.Intn(256)), Obp1: uint8(r.Intn(256)), Vram: noise(r, 8192), Oam: noise(r, 160),
	}
	for i := range 6144 {
		if r.Intn(2) == 0 {
			v.Vram[i] = 0
		}
	}
	wide, far := 1+r.Intn(200), 1+r.Intn(60)
	for n := range 40 {
		v.Oam[4*n] = uint8(int(y) + 16 - r.Intn(far))
		v.Oam[4*n+1] = uint8(r.Intn(wide))
	}
	return v
}

// plain is the examples' record: the rows of the first tile are 255 and 0.
func plain(ctl, bgp uint8) api.Video {
	v := api.Video{Ctl: ctl, Bgp: bgp, Vram: make([]byte, 8192)}
	for row := range 8 {
		v.Vram[2*row] = 255
	}
	return v
}

// same are 160 times one shade.
func same(shade uint8) []uint8 {
	return bytes.Repeat([]byte{shade}, 160)
}

// P18.1: each Ctl and Wx, and lines about Wy.
func TestWindowEach(t *testing.T) {
	for ctl := range 256 {
		for wx := range 256 {
			for _, wy := range []uint8{0, 1, 100, 143, 144, 254, 255} {
				for _, y := range []uint8{0, 1, 2, 99, 100, 101, 143, 144, 253, 254, 255} {
					v := api.Video{Ctl: uint8(ctl), Wx: uint8(wx), Wy: wy}
					if got := Window(v, y); got != shownOf(v, int(y)) {
						t.Fatalf("Ctl %d, Wx %d, Wy %d, line %d: %v", ctl, wx, wy, y, got)
					}
				}
			}
		}
	}
	for wy := range 256 {
		for y := range 256 {
			if got := Window(api.Video{Ctl: 33, Wx: 7, Wy: uint8(wy)}, uint8(y)); got != (wy <= y) {
				t.Fatalf("Wy %d, line %d: %v", wy, y, got)
			}
		}
	}
}

// P18.1: the edges, written out.
func TestWindowByHand(t *testing.T) {
	for _, w := range []struct {
		ctl, wy, wx, y uint8
		want           bool
	}{
		{33, 0, 0, 0, true}, {33, 0, 166, 0, true}, {33, 0, 167, 0, false}, {33, 0, 255, 0, false},
		{33, 5, 7, 5, true}, {33, 5, 7, 4, false}, {33, 5, 7, 255, true}, {33, 255, 7, 255, true}, {33, 255, 7, 254, false},
		{1, 0, 7, 0, false}, {32, 0, 7, 0, false}, {0, 0, 7, 0, false}, {255, 0, 7, 0, true}, {222, 0, 7, 0, false},
	} {
		if got := Window(api.Video{Ctl: w.ctl, Wy: w.wy, Wx: w.wx}, w.y); got != w.want {
			t.Errorf("%+v: %v", w, got)
		}
	}
}

// P18.2: the chapter's examples, and signed tiles, of which the first one
// stands elsewhere.
func TestLineByHand(t *testing.T) {
	for _, w := range []struct{ ctl, bgp, want uint8 }{
		{17, 228, 1}, {17, 27, 2}, {16, 228, 0}, {16, 255, 0}, {1, 228, 0}, {1, 3, 3}, {17, 3, 0}, {17, 12, 3}, {145, 228, 1}, {0, 255, 0},
	} {
		for _, y := range []uint8{0, 1, 7, 8, 143, 144, 255} {
			if got, win := Line(plain(w.ctl, w.bgp), y, 7); !bytes.Equal(got, same(w.want)) || win != 7 {
				t.Errorf("%+v, line %d: %s, %d", w, y, Text(got), win)
			}
		}
	}
}

// P18.2: each tile's number, signed and not, in both maps, by both parts.
func TestLineEachTile(t *testing.T) {
	r := rand.New(rand.NewSource(181))
	vram := noise(r, 8192)
	for tile := range 256 {
		for i := 6144; i < 7168; i++ {
			vram[i], vram[i+1024] = uint8(tile), uint8(255-tile)
		}
		for _, ctl := range []uint8{1, 9, 17, 25, 33, 49, 97, 113, 105, 121} {
			check(t, api.Video{Ctl: ctl, Bgp: 228, Wx: 80, Vram: vram}, uint8(tile), uint8(r.Intn(256)))
		}
	}
}

// P18.2: each place that the ground is scrolled to; it goes round at 256.
func TestLineEachScroll(t *testing.T) {
	vram := noise(rand.New(rand.NewSource(182)), 8192)
	for scroll := range 256 {
		for _, y := range []uint8{0, 1, 7, 8, 100, 143, 200, 255} {
			for _, ctl := range []uint8{1, 9, 17, 25} {
				check(t, api.Video{Ctl: ctl, Scx: uint8(scroll), Scy: 3, Bgp: 27, Vram: vram}, y, 0)
				check(t, api.Video{Ctl: ctl, Scx: 101, Scy: uint8(scroll), Bgp: 228, Vram: vram}, y, 0)
			}
		}
	}
}

// P18.2: each place where the window begins, and each of its own lines.
func TestLineEachWindow(t *testing.T) {
	vram := noise(rand.New(rand.NewSource(183)), 8192)
	for n := range 256 {
		for _, ctl := range []uint8{33, 41, 97, 105, 49, 113, 1, 32} {
			v := api.Video{Ctl: ctl, Scx: 5, Scy: 77, Wy: 20, Wx: uint8(n), Bgp: 228, Vram: vram}
			for _, y := range []uint8{0, 19, 20, 21, 143, 255} {
				check(t, v, y, 9)
				check(t, v, y, uint8(n))
				v.Wx = 50
				check(t, v, y, uint8(n))
				v.Wx = uint8(n)
			}
		}
	}
}

// P18.2: the window's first place and line, written out; its line counts on
// where it is shown alone, and goes round at 256.
func TestLineWindowByHand(t *testing.T) {
	v := plain(0x71, 228)
	v.Vram[0x1C00] = 1 // the window's first cell shows tile 1: nothing
	for _, w := range []struct {
		wy, wx, y, win, then uint8
		from, to             int // where nothing is seen
	}{
		{3, 17, 3, 0, 1, 10, 18}, {3, 17, 2, 0, 0, 0, 0}, {3, 17, 3, 7, 8, 10, 18}, {3, 17, 3, 8, 9, 0, 0},
		{0, 7, 0, 0, 1, 0, 8}, {0, 0, 0, 0, 1, 0, 1}, {0, 6, 0, 0, 1, 0, 7}, {0, 166, 0, 0, 1, 159, 160}, {0, 167, 0, 0, 0, 0, 0},
		{0, 100, 0, 255, 0, 0, 0},
	} {
		v.Wy, v.Wx = w.wy, w.wx
		want := same(1)
		copy(want[w.from:w.to], make([]byte, 8))
		if got, then := Line(v, w.y, w.win); !bytes.Equal(got, want) || then != w.then {
			t.Errorf("%+v: %s, %d", w, Text(got), then)
		}
	}
	v.Ctl, v.Wy, v.Wx = 0x70, 0, 7
	if got, then := Line(v, 0, 5); !bytes.Equal(got, same(0)) || then != 5 {
		t.Errorf("no window without the ground: %s, %d", Text(got), then)
	}
}

// objected is a ground of the color 1 from place 8 on and 0 ahead of it, with
// the tiles 2, 4, 6 of the colors 1, 2, 3, and 3, 5, 7 of 3, 1, 2.
func objected(ctl uint8, oam ...byte) api.Video {
	v := plain(ctl, 228)
	v.Obp0, v.Obp1, v.Oam = 228, 27, oam
	for i, color := range []uint8{1, 3, 2, 1, 3, 2} {
		for row := range 8 {
			at := 16*(i+2) + 2*row
			v.Vram[at], v.Vram[at+1] = 255*(color&1), 255*(color>>1)
		}
	}
	for cell := range 32 {
		v.Vram[6144+32*cell] = 1
	}
	return v
}

// P18.2: objects against the ground and against each other, written out: the
// first 24 places.
func TestLineObjectsByHand(t *testing.T) {
	const bare = "000000001111111111111111"
	for _, w := range []struct {
		ctl, y uint8
		oam    []byte
		want   string
	}{
		{0x13, 0, []byte{16, 8, 6, 0}, "333333331111111111111111"},
		{0x13, 7, []byte{16, 8, 6, 0}, "333333331111111111111111"},
		{0x13, 8, []byte{16, 8, 6, 0}, bare},
		{0x11, 0, []byte{16, 8, 6, 0}, bare},
		{0x13, 0, []byte{16, 1, 6, 0}, "300000001111111111111111"},
		{0x13, 0, []byte{16, 0, 6, 0}, bare},
		{0x13, 0, []byte{16, 12, 6, 0}, "000033333333111111111111"},
		// Behind the ground, where that has a color.
		{0x13, 0, []byte{16, 12, 6, 0x80}, "000033331111111111111111"},
		{0x12, 0, []byte{16, 12, 6, 0x80}, "000033333333000000000000"},
		{0x12, 0, []byte{16, 12, 6, 0}, "000033333333000000000000"},
		// The other palette.
		{0x13, 0, []byte{16, 12, 6, 0x10}, "000000000000111111111111"},
		{0x13, 0, []byte{16, 12, 2, 0x10}, "000022222222111111111111"},
		{0x13, 0, []byte{16, 12, 2, 0}, "000011111111111111111111"},
		// The lesser X is ahead, of one X the first one.
		{0x13, 0, []byte{16, 12, 6, 0, 16, 10, 4, 0}, "002222222233111111111111"},
		{0x13, 0, []byte{16, 12, 6, 0, 16, 12, 4, 0}, "000033333333111111111111"},
		{0x13, 0, []byte{16, 12, 4, 0, 16, 14, 6, 0}, "000022222222331111111111"},
		// One that is hidden hides what is behind it.
		{0x13, 0, []byte{16, 12, 6, 0x80, 16, 14, 4, 0}, "000033331111221111111111"},
		// A color 0 doesn't.
		{0x13, 0, []byte{16, 12, 1, 0, 16, 14, 4, 0}, "000000222222221111111111"},
		{0x13, 0, []byte{16, 12, 1, 0x80, 16, 12, 4, 0x80}, "000022221111111111111111"},
		// Tall ones: the halves, and turned about.
		{0x17, 0, []byte{16, 12, 7, 0}, "000033333333111111111111"},
		{0x17, 8, []byte{16, 12, 6, 0}, "000022222222111111111111"},
		{0x17, 15, []byte{16, 12, 2, 0}, "000033333333111111111111"},
		{0x17, 0, []byte{16, 12, 6, 0x40}, "000022222222111111111111"},
		{0x17, 16, []byte{16, 12, 6, 0}, bare},
	} {
		got, win := Line(objected(w.ctl, w.oam...), w.y, 3)
		if len(got) != 160 || Text(got)[:24] != w.want || win != 3 {
			t.Errorf("%+v: %s, %d", w, Text(got), win)
		}
	}
}

// P18.2: an object's color is hidden by the ground's color, not by its shade.
func TestLineBehindColors(t *testing.T) {
	v := objected(0x13, 16, 12, 6, 0x80)
	v.Bgp = 0
	if got, _ := Line(v, 0, 0); Text(got)[:16] != "0000333300000000" {
		t.Error(Text(got))
	}
	v.Bgp = 0xFF
	if got, _ := Line(v, 0, 0); Text(got)[:16] != "3333333333333333" {
		t.Error(Text(got))
	}
	v.Bgp, v.Obp0 = 0xFF, 0x24 // the object's color 3 has the shade 0
	if got, _ := Line(v, 0, 0); Text(got)[:16] != "3333000033333333" {
		t.Error(Text(got))
	}
}

// P18.2: an object's row, its column, and turned about by each.
func TestLineObjectsTurned(t *testing.T) {
	v := api.Video{Ctl: 2, Obp0: 228, Vram: make([]byte, 8192)}
	v.Vram[16*255], v.Vram[16*255+1] = 60, 126
	for _, w := range []struct {
		y, attr uint8
		lo, hi  uint8
		want    string
	}{
		{0, 0, 60, 126, "0233332000"}, {0, 0, 128, 192, "3200000000"}, {0, 32, 128, 192, "0000002300"}, {7, 64, 128, 192, "3200000000"},
		{7, 96, 128, 192, "0000002300"}, {7, 0, 128, 192, "0000000000"}, {0, 64, 128, 192, "0000000000"}, {0, 15, 1, 0, "0000000100"},
	} {
		v.Vram[16*255], v.Vram[16*255+1] = w.lo, w.hi
		v.Oam = []byte{16, 8, 255, w.attr}
		if got, _ := Line(v, w.y, 0); Text(got)[:10] != w.want {
			t.Errorf("%+v: %s", w, Text(got))
		}
	}
}

// P18.2: each X and Y of an object, both sizes, each way of turning it.
func TestLineEachObject(t *testing.T) {
	r := rand.New(rand.NewSource(184))
	v := api.Video{Bgp: 228, Obp0: 0x1B, Obp1: 0x8D, Vram: noise(r, 8192)}
	for n := range 256 {
		for _, ctl := range []uint8{2, 3, 7, 19, 6} {
			for attr := 0; attr < 256; attr += 16 {
				v.Ctl = ctl
				v.Oam = []byte{16 + 50, uint8(n), uint8(r.Intn(256)), uint8(attr + r.Intn(16))}
				check(t, v, uint8(50+r.Intn(17)), 0)
				v.Oam[0], v.Oam[1], v.Oam[2] = uint8(n), 40, uint8(n)
				check(t, v, uint8(n+r.Intn(20)-18), 0)
			}
		}
	}
}

// P18.2: ten objects of a line are seen, those with the first numbers, also if
// others stand further to the left, and those beyond the edges count too.
func TestLineTenObjects(t *testing.T) {
	v := objected(2)
	for n := range 12 {
		v.Oam = append(v.Oam, 16, uint8(8+8*(11-n)), 6, 0)
	}
	got, _ := Line(v, 0, 0)
	if want := strings.Repeat("0", 16) + strings.Repeat("3", 80) + strings.Repeat("0", 64); Text(got) != want {
		t.Error(Text(got))
	}
	for n := range 10 {
		v.Oam[4*n+1] = 0
	}
	if got, _ := Line(v, 0, 0); !bytes.Equal(got, same(0)) {
		t.Error(Text(got))
	}
	v.Oam[4*9] = 15 + 16 // the tenth one stands elsewhere: one more is found
	if got, _ := Line(v, 0, 0); Text(got)[:24] != "000000003333333300000000" {
		t.Error(Text(got))
	}
}

// P18.2: no object stands on a line that isn't seen; the ground goes on there.
func TestLineBeyond(t *testing.T) {
	r := rand.New(rand.NewSource(185))
	for y := 144; y < 256; y++ {
		v := chance(r, uint8(y))
		v.Ctl |= 2
		check(t, v, uint8(y), uint8(r.Intn(256)))
		bare := v
		bare.Ctl &^= 2
		with, _ := Line(v, uint8(y), 0)
		if without, _ := Line(bare, uint8(y), 0); !bytes.Equal(with, without) {
			t.Fatalf("line %d: %s", y, Text(with))
		}
	}
}

// P18.2: each Ctl, over memories by chance.
func TestLineEachCtl(t *testing.T) {
	r := rand.New(rand.NewSource(186))
	for ctl := range 256 {
		for range 12 {
			y := uint8(r.Intn(160))
			v := chance(r, y)
			v.Ctl = uint8(ctl)
			if r.Intn(4) != 0 {
				v.Wy, v.Wx = uint8(r.Intn(int(y)+1)), uint8(r.Intn(170))
			}
			check(t, v, y, uint8(r.Intn(256)))
		}
	}
}

// P18.2: memories of any length: bytes that they haven't are 255 and 0; what
// they have more plays no part.
func TestLineAnyMemory(t *testing.T) {
	r := rand.New(rand.NewSource(187))
	for _, n := range []int{0, 1, 2, 15, 16, 17, 2048, 4095, 4096, 4097, 6143, 6144, 6145, 7167, 7168, 7169, 8191, 8192, 8193, 20000} {
		for _, m := range []int{0, 1, 2, 3, 4, 5, 39, 40, 159, 160, 161, 1000} {
			for range 3 {
				y := uint8(r.Intn(144))
				v := chance(r, y)
				v.Vram = append(v.Vram, noise(r, 12000)...)[:n]
				v.Oam = append(v.Oam, noise(r, 840)...)[:m]
				check(t, v, y, uint8(r.Intn(256)))
			}
		}
	}
	if got, win := Line(api.Video{Ctl: 0xF1, Bgp: 228}, 0, 1); !bytes.Equal(got, same(3)) || win != 2 {
		t.Error(Text(got), win)
	}
	if got, win := Line(api.Video{}, 0, 1); !bytes.Equal(got, same(0)) || win != 1 {
		t.Error(Text(got), win)
	}
	// Objects that aren't there have Y 0, where none is seen.
	if got, _ := Line(api.Video{Ctl: 6, Obp0: 255}, 0, 0); !bytes.Equal(got, same(0)) {
		t.Error(Text(got))
	}
}

// R2: nil and empty memories are the same.
func TestNilAndEmpty(t *testing.T) {
	for ctl := range 256 {
		v := api.Video{Ctl: uint8(ctl), Bgp: 228, Obp0: 27, Wx: 30}
		w := v
		w.Vram, w.Oam = []byte{}, []byte{}
		a, m := Line(v, 9, 4)
		if b, n := Line(w, 9, 4); !bytes.Equal(a, b) || m != n {
			t.Fatal(ctl)
		}
	}
	if !bytes.Equal(Frame(nil), Frame([]api.Video{})) || Text(nil) != "" || Text([]uint8{}) != "" {
		t.Error("of none")
	}
}

// P18.3: pictures of records by chance, more and fewer than there are lines.
func TestFrameChance(t *testing.T) {
	r := rand.New(rand.NewSource(188))
	for _, n := range []int{0, 1, 2, 50, 143, 144, 145, 200, 300} {
		var l []api.Video
		for y := range n {
			v := chance(r, uint8(y))
			v.Wy = uint8(r.Intn(y%256 + 1))
			l = append(l, v)
		}
		got, want := Frame(l), frameOf(l)
		if len(got) != 144*160 {
			t.Fatalf("%d records: %d shades", n, len(got))
		}
		for y := range 144 {
			if !bytes.Equal(got[160*y:160*y+160], want[160*y:160*y+160]) {
				t.Fatalf("%d records, line %d:\n%s, not\n%s", n, y, Text(got[160*y:160*y+160]), Text(want[160*y:160*y+160]))
			}
		}
	}
}

// P18.3: the window's line is 0 at first, and counts those alone on which it is
// shown.
func TestFrameWindowCounts(t *testing.T) {
	v := api.Video{Ctl: 0x71, Bgp: 228, Wx: 7, Wy: 2, Vram: make([]byte, 8192)}
	for row := range 8 {
		v.Vram[2*row], v.Vram[2*row+1] = 255*uint8(row&1), 255*uint8(row>>1&1)
	}
	hidden := v
	hidden.Wx = 200
	hidden.Scy = 0
	got := Frame([]api.Video{v, hidden, v, v, hidden, v, hidden, hidden, v, v})
	var firsts []uint8
	for y := range 12 {
		if line := got[160*y : 160*y+160]; !bytes.Equal(line, same(line[0])) {
			t.Fatalf("line %d: %s", y, Text(line))
		}
		firsts = append(firsts, got[160*y])
	}
	// Lines 0 and 1 are ahead of it, 4, 6 and 7 without it, 10 and 11 none.
	if want := []uint8{0, 1, 0, 1, 0, 2, 2, 3, 3, 0, 0, 0}; !slices.Equal(firsts, want) {
		t.Error(firsts, want)
	}
}

// P18.3: the examples: a record, and lines that there are none of.
func TestFrameByHand(t *testing.T) {
	for _, n := range []int{0, 1, 3, 143, 144, 145, 1000} {
		l := slices.Repeat([]api.Video{plain(17, 228)}, n)
		got := Frame(l)
		want := append(bytes.Repeat([]byte{1}, 160*min(n, 144)), make([]byte, 160*(144-min(n, 144)))...)
		if !bytes.Equal(got, want) {
			t.Errorf("%d records: %d shades", n, len(got))
		}
	}
}

// P18.3: a digit for each shade, of which the two low bits count.
func TestText(t *testing.T) {
	var all []uint8
	for s := range 256 {
		all = append(all, uint8(s))
		if got := Text([]uint8{uint8(s)}); got != "0123"[s%4:s%4+1] {
			t.Errorf("%d: %q", s, got)
		}
	}
	if got := Text(all); got != strings.Repeat("0123", 64) {
		t.Error(got)
	}
	if got := Text([]uint8{3, 0, 2, 1, 255, 4}); got != "302130" {
		t.Error(got)
	}
}

// P18.4: all shades are 0 to 3; without ground and objects all are 0.
func TestShadesWithin(t *testing.T) {
	r := rand.New(rand.NewSource(189))
	for range 300 {
		y := uint8(r.Intn(256))
		v := chance(r, y)
		got, _ := Line(v, y, uint8(r.Intn(256)))
		if len(got) != 160 || slices.Max(got) > 3 {
			t.Fatalf("%+v", got)
		}
		v.Ctl &^= 3
		if got, win := Line(v, y, 9); !bytes.Equal(got, same(0)) || win != 9 {
			t.Fatalf("%s, %d", Text(got), win)
		}
	}
}

// P18.4: a line that scrolls by one is the line, moved by one, where only the
// ground is shown.
func TestScrolledIsMoved(t *testing.T) {
	r := rand.New(rand.NewSource(190))
	for range 50 {
		v := chance(r, 0)
		v.Ctl = v.Ctl&^(2|32) | 1
		y := uint8(r.Intn(256))
		for range 260 {
			line, _ := Line(v, y, 0)
			v.Scx++
			moved, _ := Line(v, y, 0)
			if !bytes.Equal(line[1:], moved[:159]) {
				t.Fatalf("Scx %d:\n%s\n%s", v.Scx, Text(line), Text(moved))
			}
		}
		line, _ := Line(v, y, 0)
		v.Scy++
		if lower, _ := Line(v, y-1, 0); !bytes.Equal(line, lower) {
			t.Fatalf("Scy %d", v.Scy)
		}
	}
}

// P18.4: what objects are not on a line doesn't turn it.
func TestOtherObjects(t *testing.T) {
	r := rand.New(rand.NewSource(191))
	for range 300 {
		y := uint8(r.Intn(144))
		v := chance(r, y)
		v.Ctl |= 2
		line, _ := Line(v, y, 0)
		rows := 8 + 8*digit(v.Ctl, 2)
		other := v
		other.Oam = slices.Clone(v.Oam)
		for n := range 40 {
			if top := int(v.Oam[4*n]); int(y)+16 < top || int(y)+16 >= top+rows {
				copy(other.Oam[4*n+1:], noise(r, 3))
				other.Oam[4*n] = uint8(int(y) + 17)
			}
		}
		if got, _ := Line(other, y, 0); !bytes.Equal(got, line) {
			t.Fatalf("line %d:\n%s\n%s", y, Text(got), Text(line))
		}
	}
}

// R3: what is handed in stays as it is, what is told is the caller's own.
func TestOwned(t *testing.T) {
	r := rand.New(rand.NewSource(192))
	v := chance(r, 20)
	v.Ctl = 0xFF
	vram, oam := slices.Clone(v.Vram), slices.Clone(v.Oam)
	line, _ := Line(v, 20, 0)
	kept := slices.Clone(line)
	again, _ := Line(v, 20, 0)
	for i := range again {
		again[i] = 99
	}
	if !bytes.Equal(line, kept) {
		t.Error("two lines share memory")
	}
	if once, _ := Line(v, 20, 0); !bytes.Equal(once, kept) {
		t.Error("a line was kept")
	}
	l := []api.Video{v, v}
	picture := Frame(l)
	whole := slices.Clone(picture)
	other := Frame(l)
	clear(other)
	if !bytes.Equal(picture, whole) || !bytes.Equal(Frame(l), whole) {
		t.Error("two pictures share memory")
	}
	shades := []uint8{0, 1, 2, 3, 255}
	Text(shades)
	if !bytes.Equal(v.Vram, vram) || !bytes.Equal(v.Oam, oam) || !bytes.Equal(shades, []uint8{0, 1, 2, 3, 255}) {
		t.Error("what was handed in isn't as it was")
	}
	for i := range v.Vram {
		v.Vram[i] = 0
	}
	if !bytes.Equal(line, kept) || !bytes.Equal(picture, whole) {
		t.Error("what was told hangs on the memory still")
	}
}

// R4: what was drawn ahead of it doesn't turn a line or a picture.
func TestNothingKept(t *testing.T) {
	r := rand.New(rand.NewSource(193))
	v := chance(r, 30)
	v.Ctl = 0xFF
	first, n := Line(v, 30, 5)
	picture := Frame([]api.Video{v})
	for range 50 {
		y := uint8(r.Intn(256))
		Line(chance(r, y), y, uint8(r.Intn(256)))
		Frame([]api.Video{chance(r, 0), chance(r, 1)})
	}
	again, m := Line(v, 30, 5)
	if !bytes.Equal(first, again) || n != m || !bytes.Equal(picture, Frame([]api.Video{v})) {
		t.Error("it hangs on what was drawn ahead")
	}
}
