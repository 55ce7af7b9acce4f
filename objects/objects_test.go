package objects

import (
	"math"
	"math/rand"
	"slices"
	"testing"

	"whirligig/api"
)

// bools are both.
var bools = []bool{false, true}

// far are numbers that no line and no place has, and such as come round when
// they are cut to fewer bits or added to.
var far = []int{
	math.MinInt, math.MinInt + 1, math.MinInt + 16, math.MinInt32, -65536, -256, -255, -248, -17, -16, -15, -9, -8, -7, -1,
	160, 161, 240, 241, 255, 256, 257, 272, 65536, 65537, 1 << 32, 1<<32 + 5, math.MaxInt - 16, math.MaxInt - 15, math.MaxInt - 8, math.MaxInt - 1, math.MaxInt,
}

// digit is a number's binary digit.
func digit(v uint8, place int) int {
	n := int(v)
	for range place {
		n /= 2
	}
	return n % 2
}

// rowsOf is how many rows an object has.
func rowsOf(tall bool) int {
	return map[bool]int{false: 8, true: 16}[tall]
}

// standsOf tells whether an object stands on a line, by the chapter's words.
func standsOf(o api.Obj, line int, tall bool) bool {
	for y := range 144 {
		if y == line {
			return y+16 >= int(o.Y) && y+16 < int(o.Y)+rowsOf(tall)
		}
	}
	return false
}

// allOf are the forty of a memory.
func allOf(oam []byte) []api.Obj {
	whole := append(slices.Clone(oam), make([]byte, 160)...)
	var l []api.Obj
	for n := range 40 {
		l = append(l, api.Obj{Y: whole[4*n], X: whole[4*n+1], Tile: whole[4*n+2], Attr: whole[4*n+3], At: uint8(n)})
	}
	return l
}

// scanOf is what Scan must answer.
func scanOf(oam []byte, line int, tall bool) []api.Obj {
	var l []api.Obj
	for _, o := range allOf(oam) {
		if len(l) < 10 && standsOf(o, line, tall) {
			l = append(l, o)
		}
	}
	return l
}

// orderOf is what Order must answer: each X and At in turn is looked for.
func orderOf(l []api.Obj) []api.Obj {
	var out []api.Obj
	for x := range 256 {
		for at := range 256 {
			for _, o := range l {
				if int(o.X) == x && int(o.At) == at {
					out = append(out, o)
				}
			}
		}
	}
	return out
}

// rowOf is what Row must answer.
func rowOf(o api.Obj, line int, tall bool) (uint8, int, bool) {
	if !standsOf(o, line, tall) {
		return 0, 0, false
	}
	r := line + 16 - int(o.Y)
	if digit(o.Attr, 6) == 1 {
		r = rowsOf(tall) - 1 - r
	}
	tile := int(o.Tile)
	if tall {
		tile -= digit(o.Tile, 0)
		if r >= 8 {
			tile, r = tile+1, r-8
		}
	}
	return uint8(tile), r, true
}

// columnOf is what Column must answer: each column in turn is looked for.
func columnOf(o api.Obj, x int) (int, bool) {
	for place := range 160 {
		for c := range 8 {
			if place == x && c == place+8-int(o.X) {
				if digit(o.Attr, 5) == 1 {
					return 7 - c, true
				}
				return c, true
			}
		}
	}
	return 0, false
}

// extraOf is what Extra must answer.
func extraOf(l []api.Obj, scx uint8) int {
	less := [8]int{0, 1, 2, 3, 4, 5, 5, 5}
	n := int(scx) % 8
	for _, o := range l {
		if int(o.X) < 168 {
			n += 11 - less[(int(o.X)+int(scx))%8]
		}
	}
	return n
}

// chance is an object by chance.
func chance(r *rand.Rand) api.Obj {
	return api.Obj{Y: uint8(r.Intn(256)), X: uint8(r.Intn(256)), Tile: uint8(r.Intn(256)), Attr: uint8(r.Intn(256)), At: uint8(r.Intn(256))}
}

// chances are n objects, of which many have the same X and At.
func chances(r *rand.Rand, n int) []api.Obj {
	var l []api.Obj
	few := 1 + r.Intn(40)
	for range n {
		o := chance(r)
		o.X, o.At = uint8(200+r.Intn(few)), uint8(230+r.Intn(4))
		if r.Intn(8) == 0 {
			o.X = uint8(r.Intn(256))
		}
		l = append(l, o)
	}
	return l
}

// memory is one by chance, whose objects stand within so many lines.
func memory(r *rand.Rand, n, wide int) []byte {
	oam := make([]byte, n)
	r.Read(oam)
	first := r.Intn(256)
	for i := range n {
		if i%4 == 0 {
			oam[i] = uint8(first + r.Intn(wide))
		}
	}
	return oam
}

// P16.1: each Y and each line, both sizes, for objects at both ends.
func TestScanEachY(t *testing.T) {
	for _, at := range []int{0, 1, 38, 39} {
		for y := range 256 {
			oam := make([]byte, 160)
			oam[4*at], oam[4*at+1], oam[4*at+2], oam[4*at+3] = uint8(y), 20, 30, 40
			o := api.Obj{Y: uint8(y), X: 20, Tile: 30, Attr: 40, At: uint8(at)}
			for _, tall := range bools {
				for line := -20; line < 300; line++ {
					got := Scan(oam, line, tall)
					if standsOf(o, line, tall) {
						if len(got) != 1 || got[0] != o {
							t.Fatalf("%+v, line %d, tall %v: %+v", o, line, tall, got)
						}
					} else if len(got) != 0 {
						t.Fatalf("%+v, line %d, tall %v: %+v", o, line, tall, got)
					}
				}
			}
		}
	}
}

// P16.1: the first and the last line of an object, written out.
func TestScanByHand(t *testing.T) {
	for _, w := range []struct {
		y    uint8
		line int
		tall bool
		want bool
	}{
		{16, 0, false, true}, {16, 7, false, true}, {16, 8, false, false}, {16, 8, true, true}, {16, 15, true, true}, {16, 16, true, false},
		{17, 0, false, false}, {17, 1, false, true}, {9, 0, false, true}, {8, 0, false, false}, {8, 0, true, true}, {1, 0, true, true},
		{1, 1, true, false}, {0, 0, true, false}, {0, 0, false, false},
		{159, 143, false, true}, {159, 142, false, false}, {159, 143, true, true}, {160, 143, true, false}, {160, 144, true, false}, {160, 144, false, false},
		{152, 143, false, true}, {151, 143, false, false}, {151, 143, true, true}, {144, 143, true, true}, {143, 143, true, false}, {255, 239, false, false}, {255, 143, true, false},
		{8, -1, true, false}, {16, -1, true, false}, {255, -1, true, false},
	} {
		got := Scan([]byte{w.y, 1, 2, 3}, w.line, w.tall)
		if w.want != (len(got) == 1) || w.want && got[0] != (api.Obj{Y: w.y, X: 1, Tile: 2, Attr: 3}) {
			t.Errorf("%+v: %+v", w, got)
		}
	}
}

// P16.1: X has no part in it: those that are beyond the edges count too.
func TestScanEachX(t *testing.T) {
	for x := range 256 {
		var oam []byte
		for range 9 {
			oam = append(oam, 20, uint8(x), 0, 0)
		}
		oam = append(oam, 20, 50, 7, 0, 20, 51, 8, 0)
		got := Scan(oam, 4, false)
		if len(got) != 10 || got[0].X != uint8(x) || got[9] != (api.Obj{Y: 20, X: 50, Tile: 7, At: 9}) {
			t.Fatalf("X %d: %+v", x, got)
		}
	}
}

// P16.1: the first ten, whatever others there are between and behind them.
func TestScanTen(t *testing.T) {
	for on := range 41 {
		for gap := range 3 {
			oam := make([]byte, 160)
			var want []uint8
			for n := range on {
				at := n * (1 + gap)
				if at >= 40 {
					break
				}
				oam[4*at] = 100
				if len(want) < 10 {
					want = append(want, uint8(at))
				}
			}
			got := Scan(oam, 90, false)
			var ats []uint8
			for _, o := range got {
				ats = append(ats, o.At)
			}
			if !slices.Equal(ats, want) {
				t.Errorf("%d, each %d: %v, not %v", on, 1+gap, ats, want)
			}
		}
	}
}

// P16.1, R2: memories of any length; bytes that one hasn't are 0, and those
// behind the forty are nobody's.
func TestScanLengths(t *testing.T) {
	full := make([]byte, 400)
	for i := range full {
		full[i] = uint8(20 + i%4)
	}
	for n := range len(full) + 1 {
		oam := full[:n]
		for _, tall := range bools {
			for _, line := range []int{3, 4, 11, 12, 19, 20} {
				if got, want := Scan(oam, line, tall), scanOf(oam, line, tall); !slices.Equal(got, want) {
					t.Fatalf("%d bytes, line %d: %+v, not %+v", n, line, got, want)
				}
			}
		}
	}
	cut := []api.Obj{{Y: 20}, {Y: 20, X: 21}, {Y: 20, X: 21, Tile: 22}, {Y: 20, X: 21, Tile: 22, Attr: 23}}
	for n, want := range cut {
		if got := Scan(full[:n+1], 4, false); len(got) != 1 || got[0] != want {
			t.Errorf("%d bytes: %+v", n+1, got)
		}
	}
	// Only the last bytes of the forty, and those that would be a forty-first.
	late := make([]byte, 168)
	late[156], late[160], late[164] = 20, 20, 20
	if got := Scan(late, 4, false); len(got) != 1 || got[0] != (api.Obj{Y: 20, At: 39}) {
		t.Errorf("beyond the forty: %+v", got)
	}
	for _, tall := range bools {
		for line := -1; line < 146; line++ {
			if len(Scan(nil, line, tall)) != 0 || len(Scan([]byte{}, line, tall)) != 0 || len(Scan(make([]byte, 160), line, tall)) != 0 {
				t.Errorf("nothing, line %d", line)
			}
		}
	}
}

// P16.1, P1: lines that aren't.
func TestScanFar(t *testing.T) {
	for y := range 256 {
		var oam []byte
		for range 40 {
			oam = append(oam, uint8(y), 1, 2, 3)
		}
		for _, tall := range bools {
			for _, line := range append([]int{144, 145, 152, 153, 154, 159}, far...) {
				if got := Scan(oam, line, tall); len(got) != 0 {
					t.Fatalf("Y %d, line %d: %+v", y, line, got)
				}
			}
		}
	}
}

// P16.1, P16.5: memories by chance, each line.
func TestScanChance(t *testing.T) {
	r := rand.New(rand.NewSource(161))
	for _, wide := range []int{1, 4, 16, 60, 256} {
		for range 40 {
			oam := memory(r, 160, wide)
			if r.Intn(3) == 0 {
				oam = memory(r, r.Intn(200), wide)
			}
			was := slices.Clone(oam)
			for line := -2; line < 150; line++ {
				for _, tall := range bools {
					got := Scan(oam, line, tall)
					if want := scanOf(oam, line, tall); !slices.Equal(got, want) {
						t.Fatalf("%v, line %d, tall %v: %+v, not %+v", oam, line, tall, got, want)
					}
					holdScan(t, oam, line, tall, got)
				}
			}
			if !slices.Equal(oam, was) {
				t.Fatal("the memory was changed")
			}
		}
	}
}

// holdScan holds what follows of a scan.
func holdScan(t *testing.T, oam []byte, line int, tall bool, got []api.Obj) {
	t.Helper()
	all := allOf(oam)
	for i, o := range got {
		if i > 0 && got[i-1].At >= o.At {
			t.Fatalf("line %d: not rising: %+v", line, got)
		}
		if _, _, ok := Row(o, line, tall); !ok || o != all[o.At] {
			t.Fatalf("line %d: %+v doesn't stand there", line, o)
		}
	}
	if len(got) > 10 {
		t.Fatalf("line %d: %d of them", line, len(got))
	}
	if len(got) < 10 {
		for _, o := range all {
			if _, _, ok := Row(o, line, tall); ok && !slices.Contains(got, o) {
				t.Fatalf("line %d: %+v isn't told", line, o)
			}
		}
	}
}

// R3: what is told is the caller's own, and nothing stands behind its end.
func TestScanOwn(t *testing.T) {
	var oam []byte
	for n := range 40 {
		oam = append(oam, 20, uint8(n), 0, 0)
	}
	first, second := Scan(oam, 4, false), Scan(oam, 4, false)
	if cap(first) != len(first) {
		t.Errorf("room for %d behind the end", cap(first)-len(first))
	}
	first[0] = api.Obj{Y: 99}
	_ = append(first, api.Obj{Y: 98})
	oam[1] = 77
	if second[0] != (api.Obj{Y: 20}) {
		t.Errorf("shared: %+v", second[0])
	}
	if third := Scan(oam, 4, false); third[0] != (api.Obj{Y: 20, X: 77}) {
		t.Errorf("kept: %+v", third[0])
	}
}

// P16.2: written out.
func TestOrderByHand(t *testing.T) {
	l := []api.Obj{{X: 9, At: 0}, {X: 255, At: 1}, {X: 8, At: 3, Y: 1}, {X: 0, At: 200}, {X: 8, At: 2}, {X: 8, At: 3, Y: 0}, {X: 128, At: 0}, {X: 8, At: 3, Tile: 5}, {X: 127, At: 255}}
	was := slices.Clone(l)
	want := []api.Obj{{X: 0, At: 200}, {X: 8, At: 2}, {X: 8, At: 3, Y: 1}, {X: 8, At: 3, Y: 0}, {X: 8, At: 3, Tile: 5}, {X: 9, At: 0}, {X: 127, At: 255}, {X: 128, At: 0}, {X: 255, At: 1}}
	if got := Order(l); !slices.Equal(got, want) {
		t.Errorf("%+v", got)
	}
	if !slices.Equal(l, was) {
		t.Errorf("changed: %+v", l)
	}
	if len(Order(nil)) != 0 || len(Order([]api.Obj{})) != 0 {
		t.Error("of nothing")
	}
	if got := Order([]api.Obj{{X: 3, Y: 4}}); len(got) != 1 || got[0] != (api.Obj{X: 3, Y: 4}) {
		t.Errorf("of one: %+v", got)
	}
}

// P16.2: each two Xs, and each two numbers of one X.
func TestOrderPairs(t *testing.T) {
	for a := range 256 {
		for b := range 256 {
			p, q := api.Obj{X: uint8(a), At: 2, Tile: 1}, api.Obj{X: uint8(b), At: 1, Tile: 2}
			got := Order([]api.Obj{p, q})
			if a < b && (got[0] != p || got[1] != q) || a >= b && (got[0] != q || got[1] != p) {
				t.Fatalf("X %d, %d: %+v", a, b, got)
			}
			p, q = api.Obj{X: 7, At: uint8(a), Tile: 2, Y: 9}, api.Obj{X: 7, At: uint8(b), Tile: 1, Attr: 3}
			got = Order([]api.Obj{p, q})
			if a <= b && (got[0] != p || got[1] != q) || a > b && (got[0] != q || got[1] != p) {
				t.Fatalf("At %d, %d: %+v", a, b, got)
			}
		}
	}
}

// P16.2, P16.5: lists of any length by chance; those of one X and one At stay
// as they were.
func TestOrderChance(t *testing.T) {
	r := rand.New(rand.NewSource(162))
	for n := range 120 {
		length := n
		if n >= 100 {
			length = 300 + r.Intn(300)
		}
		l := chances(r, length)
		was := slices.Clone(l)
		got := Order(l)
		if !slices.Equal(l, was) {
			t.Fatalf("%d: changed", length)
		}
		if !slices.Equal(got, orderOf(l)) {
			t.Fatalf("%+v: %+v", l, got)
		}
		if !slices.Equal(Order(got), got) {
			t.Fatalf("%+v: another order of what is in order", got)
		}
	}
}

// R3: what is told shares nothing with what is handed in.
func TestOrderOwn(t *testing.T) {
	l := append(make([]api.Obj, 0, 8), api.Obj{X: 1}, api.Obj{X: 2})
	got := Order(l)
	got[0].X = 99
	_ = append(got, api.Obj{X: 98})
	if l[0].X != 1 || l[:3][2] != (api.Obj{}) {
		t.Errorf("shared: %+v", l[:3])
	}
	got = Order(l)
	l[0].X = 97
	if got[0].X != 1 {
		t.Errorf("shared: %+v", got)
	}
}

// P16.3: each Y, each line, each turn.
func TestRow(t *testing.T) {
	for y := range 256 {
		for line := -20; line < 300; line++ {
			for _, tile := range []uint8{0, 1, 4, 5, 127, 128, 254, 255} {
				for _, attr := range []uint8{0, 64, 191, 255} {
					for _, tall := range bools {
						o := api.Obj{Y: uint8(y), X: 3, Tile: tile, Attr: attr, At: 99}
						gt, gr, gok := Row(o, line, tall)
						wt, wr, wok := rowOf(o, line, tall)
						if gt != wt || gr != wr || gok != wok {
							t.Fatalf("%+v, line %d, tall %v: %d, %d, %v, not %d, %d, %v", o, line, tall, gt, gr, gok, wt, wr, wok)
						}
					}
				}
			}
		}
	}
}

// P16.3: each Tile and each Attr; neither X nor At has a part in it.
func TestRowBytes(t *testing.T) {
	r := rand.New(rand.NewSource(163))
	for tile := range 256 {
		for attr := range 256 {
			for _, tall := range bools {
				line := 4 + r.Intn(16)
				o := api.Obj{Y: 20, X: uint8(r.Intn(256)), Tile: uint8(tile), Attr: uint8(attr), At: uint8(r.Intn(256))}
				gt, gr, gok := Row(o, line, tall)
				wt, wr, wok := rowOf(o, line, tall)
				if gt != wt || gr != wr || gok != wok {
					t.Fatalf("%+v, line %d, tall %v: %d, %d, %v, not %d, %d, %v", o, line, tall, gt, gr, gok, wt, wr, wok)
				}
			}
		}
	}
}

// P16.3: written out, the chapter's examples first.
func TestRowByHand(t *testing.T) {
	for _, w := range []struct {
		o    api.Obj
		line int
		tall bool
		tile uint8
		row  int
		ok   bool
	}{
		{api.Obj{Y: 16, X: 8}, 0, false, 0, 0, true},
		{api.Obj{Y: 16, X: 8, Attr: 64}, 7, false, 0, 0, true},
		{api.Obj{Y: 16, Tile: 5}, 9, true, 5, 1, true},
		{api.Obj{Y: 16, Tile: 5}, 7, false, 5, 7, true}, {api.Obj{Y: 16, Tile: 5}, 8, false, 0, 0, false},
		{api.Obj{Y: 16, Tile: 5, Attr: 64}, 0, false, 5, 7, true}, {api.Obj{Y: 16, Tile: 5, Attr: 64}, 8, false, 0, 0, false},
		{api.Obj{Y: 16, Tile: 5}, 0, true, 4, 0, true}, {api.Obj{Y: 16, Tile: 4}, 0, true, 4, 0, true},
		{api.Obj{Y: 16, Tile: 5}, 7, true, 4, 7, true}, {api.Obj{Y: 16, Tile: 4}, 8, true, 5, 0, true},
		{api.Obj{Y: 16, Tile: 4}, 15, true, 5, 7, true}, {api.Obj{Y: 16, Tile: 4}, 16, true, 0, 0, false},
		{api.Obj{Y: 16, Tile: 4, Attr: 64}, 0, true, 5, 7, true}, {api.Obj{Y: 16, Tile: 5, Attr: 64}, 7, true, 5, 0, true},
		{api.Obj{Y: 16, Tile: 5, Attr: 64}, 8, true, 4, 7, true}, {api.Obj{Y: 16, Tile: 5, Attr: 64}, 15, true, 4, 0, true},
		{api.Obj{Y: 16, Tile: 255}, 3, true, 254, 3, true}, {api.Obj{Y: 16, Tile: 255}, 12, true, 255, 4, true},
		{api.Obj{Y: 16, Tile: 5, Attr: 191}, 2, false, 5, 2, true},
		{api.Obj{Y: 10, Tile: 5}, 0, false, 5, 6, true}, {api.Obj{Y: 9, Tile: 5}, 0, false, 5, 7, true}, {api.Obj{Y: 8, Tile: 5}, 0, false, 0, 0, false},
		{api.Obj{Y: 1, Tile: 5}, 0, true, 5, 7, true}, {api.Obj{Tile: 5}, 0, true, 0, 0, false},
		{api.Obj{Y: 159, Tile: 5}, 143, false, 5, 0, true}, {api.Obj{Y: 159, Tile: 5, Attr: 64}, 143, false, 5, 7, true},
		{api.Obj{Y: 159, Tile: 5}, 144, false, 0, 0, false}, {api.Obj{Y: 160, Tile: 5}, 144, true, 0, 0, false}, {api.Obj{Y: 15, Tile: 5}, -1, true, 0, 0, false},
	} {
		if tile, row, ok := Row(w.o, w.line, w.tall); tile != w.tile || row != w.row || ok != w.ok {
			t.Errorf("%+v: %d, %d, %v", w, tile, row, ok)
		}
	}
}

// P16.3, P1: lines that aren't.
func TestRowFar(t *testing.T) {
	for y := range 256 {
		for _, line := range append([]int{144, 150, 159}, far...) {
			for _, attr := range []uint8{0, 255} {
				for _, tall := range bools {
					if tile, row, ok := Row(api.Obj{Y: uint8(y), Tile: 9, Attr: attr}, line, tall); tile != 0 || row != 0 || ok {
						t.Fatalf("Y %d, line %d: %d, %d, %v", y, line, tile, row, ok)
					}
				}
			}
		}
	}
}

// P16.5: one that is whole within the picture is seen on 8 or 16 lines, each of
// which shows another row; of one at an edge fewer are left, and they do too.
func TestRowsOfObject(t *testing.T) {
	type place struct {
		tile uint8
		row  int
	}
	for y := range 256 {
		for _, attr := range []uint8{0, 64} {
			for _, tall := range bools {
				seen := map[place]int{}
				for line := range 144 {
					if tile, row, ok := Row(api.Obj{Y: uint8(y), Tile: 6, Attr: attr}, line, tall); ok {
						if row < 0 || row > 7 {
							t.Fatalf("Y %d, line %d: row %d", y, line, row)
						}
						seen[place{tile, row}]++
					}
				}
				want := max(0, min(160, y+rowsOf(tall))-max(16, y))
				if len(seen) != want {
					t.Errorf("Y %d, tall %v: %d rows, not %d", y, tall, len(seen), want)
				}
				for p, n := range seen {
					if n != 1 {
						t.Errorf("Y %d, tall %v: %+v on %d lines", y, tall, p, n)
					}
				}
			}
		}
	}
}

// P16.3: each X and each place.
func TestColumn(t *testing.T) {
	for x := range 256 {
		for place := -20; place < 280; place++ {
			for _, attr := range []uint8{0, 32, 223, 255} {
				o := api.Obj{Y: 7, X: uint8(x), Tile: 8, Attr: attr, At: 9}
				got, ok := Column(o, place)
				if want, wok := columnOf(o, place); got != want || ok != wok {
					t.Fatalf("%+v at %d: %d, %v, not %d, %v", o, place, got, ok, want, wok)
				}
			}
		}
	}
	for attr := range 256 {
		want := 2 + 3*digit(uint8(attr), 5)
		if got, ok := Column(api.Obj{X: 20, Attr: uint8(attr)}, 14); got != want || !ok {
			t.Errorf("Attr %d: %d, %v", attr, got, ok)
		}
	}
}

// P16.3: written out, the chapter's examples first.
func TestColumnByHand(t *testing.T) {
	for _, w := range []struct {
		x, attr uint8
		at      int
		want    int
		ok      bool
	}{
		{8, 0, 3, 3, true}, {8, 32, 3, 4, true},
		{8, 0, 0, 0, true}, {8, 0, 7, 7, true}, {8, 0, 8, 0, false}, {8, 32, 0, 7, true}, {8, 32, 7, 0, true}, {8, 32, 8, 0, false},
		{9, 0, 0, 0, false}, {9, 0, 1, 0, true}, {1, 0, 0, 7, true}, {1, 32, 0, 0, true}, {1, 0, 1, 0, false}, {0, 0, 0, 0, false},
		{4, 0, -1, 0, false}, {4, 0, -4, 0, false}, {4, 0, 0, 4, true},
		{167, 0, 159, 0, true}, {167, 32, 159, 7, true}, {167, 0, 160, 0, false}, {168, 0, 159, 0, false}, {168, 0, 160, 0, false},
		{160, 0, 159, 7, true}, {160, 0, 152, 0, true}, {164, 0, 160, 0, false}, {255, 0, 247, 0, false}, {8, 223, 3, 3, true},
	} {
		if got, ok := Column(api.Obj{X: w.x, Attr: w.attr}, w.at); got != w.want || ok != w.ok {
			t.Errorf("%+v: %d, %v", w, got, ok)
		}
	}
}

// P16.3, P1: places that aren't.
func TestColumnFar(t *testing.T) {
	for x := range 256 {
		for _, place := range far {
			for _, attr := range []uint8{0, 255} {
				if got, ok := Column(api.Obj{X: uint8(x), Attr: attr}, place); got != 0 || ok {
					t.Fatalf("X %d at %d: %d, %v", x, place, got, ok)
				}
			}
		}
	}
}

// P16.4: each X with each scx.
func TestExtra(t *testing.T) {
	for scx := range 256 {
		for x := range 256 {
			l := []api.Obj{{Y: 200, X: uint8(x), Tile: 9, Attr: 255, At: 77}}
			if got, want := Extra(l, uint8(scx)), extraOf(l, uint8(scx)); got != want {
				t.Fatalf("X %d, scx %d: %d, not %d", x, scx, got, want)
			}
		}
		if got := Extra(nil, uint8(scx)); got != scx%8 {
			t.Errorf("of nothing, scx %d: %d", scx, got)
		}
	}
}

// P16.4: written out, the chapter's examples first.
func TestExtraByHand(t *testing.T) {
	for _, w := range []struct {
		xs   []uint8
		scx  uint8
		want int
	}{
		{[]uint8{8}, 0, 11}, {[]uint8{8}, 3, 11},
		{nil, 0, 0}, {nil, 7, 7}, {nil, 8, 0}, {nil, 255, 7},
		{[]uint8{0}, 0, 11}, {[]uint8{4}, 0, 7}, {[]uint8{5}, 0, 6}, {[]uint8{6}, 0, 6}, {[]uint8{7}, 0, 6}, {[]uint8{7}, 1, 12},
		{[]uint8{167}, 0, 6}, {[]uint8{168}, 0, 0}, {[]uint8{169}, 2, 2}, {[]uint8{255}, 255, 7}, {[]uint8{160}, 255, 13}, {[]uint8{160}, 0, 11},
		{[]uint8{8, 168, 8}, 0, 22}, {[]uint8{8, 12, 13}, 0, 24}, {[]uint8{1, 2, 3}, 5, 5 + 6 + 6 + 11},
		{[]uint8{0, 0, 0, 0, 0, 0, 0, 0, 0, 0}, 0, 110}, {[]uint8{0, 0, 0, 0, 0, 0, 0, 0, 0, 0, 0}, 8, 121},
	} {
		var l []api.Obj
		for _, x := range w.xs {
			l = append(l, api.Obj{X: x})
		}
		if got := Extra(l, w.scx); got != w.want {
			t.Errorf("%+v: %d", w, got)
		}
	}
}

// P16.4: lists of any length, in any order; nothing but X has a part in it.
func TestExtraChance(t *testing.T) {
	r := rand.New(rand.NewSource(164))
	for n := range 300 {
		var l, bare []api.Obj
		for range n {
			o := chance(r)
			l, bare = append(l, o), append(bare, api.Obj{X: o.X})
		}
		was := slices.Clone(l)
		scx := uint8(r.Intn(256))
		got := Extra(l, scx)
		if want := extraOf(l, scx); got != want {
			t.Fatalf("%+v, scx %d: %d, not %d", l, scx, got, want)
		}
		if Extra(bare, scx) != got || Extra(Order(l), scx) != got {
			t.Fatalf("%+v, scx %d: another for the same Xs", l, scx)
		}
		if !slices.Equal(l, was) {
			t.Fatal("changed")
		}
	}
	// More than any of 16 bits holds.
	if got := Extra(make([]api.Obj, 100000), 1); got != 1+100000*10 {
		t.Errorf("of many: %d", got)
	}
}

// R4: the same answers, whatever was asked between.
func TestNothingKept(t *testing.T) {
	r := rand.New(rand.NewSource(165))
	oam := memory(r, 160, 1)
	for n := range 40 {
		oam[4*n] = uint8(50 + n)
	}
	line := 44
	first := Scan(oam, line, true)
	if len(first) != 10 {
		t.Fatalf("%+v", first)
	}
	ordered := Order(first)
	extra := Extra(first, 5)
	for range 50 {
		other := Scan(memory(r, 160, 20), r.Intn(144), false)
		Extra(Order(other), uint8(r.Intn(256)))
	}
	if !slices.Equal(Scan(oam, line, true), first) || !slices.Equal(Order(first), ordered) || Extra(first, 5) != extra {
		t.Error("not the same")
	}
}
