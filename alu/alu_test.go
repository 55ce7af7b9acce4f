package alu

import (
	"math"
	"testing"

	"whirligig/api"
)

// allFlags are the sixteen of them, made without Of.
func allFlags() []api.Flags {
	var list []api.Flags
	both := []bool{false, true}
	for _, z := range both {
		for _, n := range both {
			for _, h := range both {
				for _, c := range both {
					list = append(list, api.Flags{Z: z, N: n, H: h, C: c})
				}
			}
		}
	}
	return list
}

// modulo is n modulo m, from 0 to m - 1, also below 0.
func modulo(n, m int) int {
	return (n%m + m) % m
}

// one is 1 of what is on, else 0.
func one(on bool) int {
	if on {
		return 1
	}
	return 0
}

// P2.1

func TestByteAddsWhatEachFlagIsWorth(t *testing.T) {
	for _, f := range allFlags() {
		want := 128*one(f.Z) + 64*one(f.N) + 32*one(f.H) + 16*one(f.C)
		if got := Byte(f); int(got) != want {
			t.Errorf("Byte(%v) = %d, want %d", f, got, want)
		}
	}
}

func TestOfLeavesTheLowBitsOut(t *testing.T) {
	for b := range 256 {
		want := api.Flags{Z: b/128%2 == 1, N: b/64%2 == 1, H: b/32%2 == 1, C: b/16%2 == 1}
		if got := Of(uint8(b)); got != want {
			t.Errorf("Of(%d) = %v, want %v", b, got, want)
		}
	}
}

// P2.2

// eachBit is what two bytes come to, bit by bit, where two bits come to 1 if
// how many of them are 1 is one of the numbers wanted.
func eachBit(a, v int, wanted ...int) int {
	sum := 0
	for worth := 1; worth < 256; worth *= 2 {
		count := a/worth%2 + v/worth%2
		for _, w := range wanted {
			sum += worth * one(count == w)
		}
	}
	return sum
}

// meant is what an operation from 0 to 7 is, in whole numbers.
func meant(op, a, v int, f api.Flags) (int, api.Flags) {
	c := 0
	if op == 1 || op == 3 {
		c = one(f.C)
	}
	switch op {
	case 0, 1:
		x := modulo(a+v+c, 256)
		return x, api.Flags{Z: x == 0, H: a%16+v%16+c > 15, C: a+v+c > 255}
	case 2, 3, 7:
		x := modulo(a-v-c, 256)
		g := api.Flags{Z: x == 0, N: true, H: a%16 < v%16+c, C: a < v+c}
		if op == 7 {
			x = a
		}
		return x, g
	case 4:
		x := eachBit(a, v, 2)
		return x, api.Flags{Z: x == 0, H: true}
	case 5:
		x := eachBit(a, v, 1)
		return x, api.Flags{Z: x == 0}
	}
	x := eachBit(a, v, 1, 2)
	return x, api.Flags{Z: x == 0}
}

func TestDoIsEachOperationOfAllBytes(t *testing.T) {
	for op := range 8 {
		for a := range 256 {
			for v := range 256 {
				for _, f := range allFlags() {
					x, g := meant(op, a, v, f)
					if y, h := Do(op, uint8(a), uint8(v), f); int(y) != x || h != g {
						t.Fatalf("Do(%d, %d, %d, %v) = %d, %v, want %d, %v", op, a, v, f, y, h, x, g)
					}
				}
			}
		}
	}
}

func TestDoAtTheEdgesOfTheCarry(t *testing.T) {
	c := api.Flags{C: true}
	for _, k := range []struct {
		name  string
		op    int
		a, v  uint8
		f     api.Flags
		x     uint8
		wants api.Flags
	}{
		{"ADD leaves the carry out", 0, 255, 0, c, 255, api.Flags{}},
		{"ADC of 255, 0 and 1", 1, 255, 0, c, 0, api.Flags{Z: true, H: true, C: true}},
		{"ADC whose v and carry are 256", 1, 0, 255, c, 0, api.Flags{Z: true, H: true, C: true}},
		{"ADC of the greatest ones", 1, 255, 255, c, 255, api.Flags{H: true, C: true}},
		{"ADC half carries by the carry alone", 1, 15, 0, c, 16, api.Flags{H: true}},
		{"ADD carries without a half one", 0, 240, 16, api.Flags{}, 0, api.Flags{Z: true, C: true}},
		{"SUB leaves the carry out", 2, 0, 0, c, 0, api.Flags{Z: true, N: true}},
		{"SBC whose v and carry are 256", 3, 255, 255, c, 255, api.Flags{N: true, H: true, C: true}},
		{"SBC of 0 and 255", 3, 0, 255, c, 0, api.Flags{Z: true, N: true, H: true, C: true}},
		{"SBC whose low bits and carry are 16", 3, 31, 15, c, 15, api.Flags{N: true, H: true}},
		{"SBC borrows by the carry alone", 3, 0, 0, c, 255, api.Flags{N: true, H: true, C: true}},
		{"CP leaves the carry out, and a as it was", 7, 5, 5, c, 5, api.Flags{Z: true, N: true}},
		{"AND drops the carry", 4, 240, 15, c, 0, api.Flags{Z: true, H: true}},
		{"XOR drops all", 5, 3, 1, api.Flags{Z: true, N: true, H: true, C: true}, 2, api.Flags{}},
		{"OR of nothing", 6, 0, 0, api.Flags{N: true, H: true, C: true}, 0, api.Flags{Z: true}},
	} {
		if x, g := Do(k.op, k.a, k.v, k.f); x != k.x || g != k.wants {
			t.Errorf("%s: Do(%d, %d, %d, %v) = %d, %v, want %d, %v", k.name, k.op, k.a, k.v, k.f, x, g, k.x, k.wants)
		}
	}
}

func TestDoOfOtherNumbersCountsModulo8(t *testing.T) {
	ops := []int{
		math.MaxInt, math.MaxInt - 1, math.MaxInt - 5, math.MinInt, math.MinInt + 1, math.MinInt + 7,
		math.MaxInt32, math.MinInt32, 255, 256, -255, -256, 1000003, -1000003,
	}
	for op := -40; op <= 40; op++ {
		ops = append(ops, op)
	}
	bytes := []int{0, 1, 8, 15, 16, 58, 79, 127, 128, 198, 240, 255}
	for _, op := range ops {
		for _, a := range bytes {
			for _, v := range bytes {
				for _, f := range allFlags() {
					x, g := meant(modulo(op, 8), a, v, f)
					if y, h := Do(op, uint8(a), uint8(v), f); int(y) != x || h != g {
						t.Fatalf("Do(%d, %d, %d, %v) = %d, %v, want %d, %v", op, a, v, f, y, h, x, g)
					}
				}
			}
		}
	}
}

// P2.3

func TestIncIsOneMore(t *testing.T) {
	for v := range 256 {
		for _, f := range allFlags() {
			want := modulo(v+1, 256)
			flags := api.Flags{Z: v == 255, H: v%16 == 15, C: f.C}
			if x, g := Inc(uint8(v), f); int(x) != want || g != flags {
				t.Errorf("Inc(%d, %v) = %d, %v, want %d, %v", v, f, x, g, want, flags)
			}
		}
	}
}

func TestDecIsOneLess(t *testing.T) {
	for v := range 256 {
		for _, f := range allFlags() {
			want := modulo(v-1, 256)
			flags := api.Flags{Z: v == 1, N: true, H: v%16 == 0, C: f.C}
			if x, g := Dec(uint8(v), f); int(x) != want || g != flags {
				t.Errorf("Dec(%d, %v) = %d, %v, want %d, %v", v, f, x, g, want, flags)
			}
		}
	}
}

// P2.4

// decimal is what Daa is, in whole numbers.
func decimal(a int, f api.Flags) (int, api.Flags) {
	d := 0
	if f.N {
		d += 96*one(f.C) + 6*one(f.H)
		x := modulo(a-d, 256)
		return x, api.Flags{Z: x == 0, N: true, C: f.C}
	}
	if f.C || a > 153 {
		d = 96
	}
	if f.H || a%16 > 9 {
		d += 6
	}
	x := modulo(a+d, 256)
	return x, api.Flags{Z: x == 0, C: d >= 96}
}

func TestDaaOfAllBytes(t *testing.T) {
	for a := range 256 {
		for _, f := range allFlags() {
			x, g := decimal(a, f)
			if y, h := Daa(uint8(a), f); int(y) != x || h != g {
				t.Errorf("Daa(%d, %v) = %d, %v, want %d, %v", a, f, y, h, x, g)
			}
		}
	}
}

func TestDaaAtItsEdges(t *testing.T) {
	for _, k := range []struct {
		a     uint8
		f     api.Flags
		x     uint8
		wants api.Flags
	}{
		{153, api.Flags{}, 153, api.Flags{}},
		{154, api.Flags{}, 0, api.Flags{Z: true, C: true}},
		{144, api.Flags{}, 144, api.Flags{}},
		{160, api.Flags{}, 0, api.Flags{Z: true, C: true}},
		{9, api.Flags{}, 9, api.Flags{}},
		{10, api.Flags{}, 16, api.Flags{}},
		{255, api.Flags{}, 101, api.Flags{C: true}},
		{0, api.Flags{Z: true, H: true, C: true}, 102, api.Flags{C: true}},
		{0, api.Flags{N: true}, 0, api.Flags{Z: true, N: true}},
		{255, api.Flags{N: true}, 255, api.Flags{N: true}},
		{154, api.Flags{Z: true, N: true}, 154, api.Flags{N: true}},
		{6, api.Flags{N: true, H: true}, 0, api.Flags{Z: true, N: true}},
		{0, api.Flags{N: true, H: true}, 250, api.Flags{N: true}},
		{102, api.Flags{N: true, H: true, C: true}, 0, api.Flags{Z: true, N: true, C: true}},
		{0, api.Flags{N: true, C: true}, 160, api.Flags{N: true, C: true}},
	} {
		if x, g := Daa(k.a, k.f); x != k.x || g != k.wants {
			t.Errorf("Daa(%d, %v) = %d, %v, want %d, %v", k.a, k.f, x, g, k.x, k.wants)
		}
	}
}

// P2.5

func TestCplTurnsAllBitsAbout(t *testing.T) {
	for a := range 256 {
		for _, f := range allFlags() {
			flags := api.Flags{Z: f.Z, N: true, H: true, C: f.C}
			if x, g := Cpl(uint8(a), f); int(x) != 255-a || g != flags {
				t.Errorf("Cpl(%d, %v) = %d, %v, want %d, %v", a, f, x, g, 255-a, flags)
			}
		}
	}
}

func TestScfAndCcfKeepZAlone(t *testing.T) {
	for _, f := range allFlags() {
		if got, want := Scf(f), (api.Flags{Z: f.Z, C: true}); got != want {
			t.Errorf("Scf(%v) = %v, want %v", f, got, want)
		}
		if got, want := Ccf(f), (api.Flags{Z: f.Z, C: !f.C}); got != want {
			t.Errorf("Ccf(%v) = %v, want %v", f, got, want)
		}
	}
}

// P2.6

// edgeWords are words about each power of two, where something carries.
func edgeWords() []int {
	list := []int{0}
	for worth := 1; worth <= 65536; worth *= 2 {
		for _, by := range []int{-1, 0, 1, 3} {
			list = append(list, modulo(worth+by, 65536), modulo(-worth+by, 65536))
		}
	}
	return list
}

func checkAddWords(t *testing.T, a, b int, f api.Flags) {
	want := modulo(a+b, 65536)
	flags := api.Flags{Z: f.Z, H: a%4096+b%4096 > 4095, C: a+b > 65535}
	if x, g := AddWords(uint16(a), uint16(b), f); int(x) != want || g != flags {
		t.Fatalf("AddWords(%d, %d, %v) = %d, %v, want %d, %v", a, b, f, x, g, want, flags)
	}
}

func TestAddWordsAtEdges(t *testing.T) {
	for _, a := range edgeWords() {
		for _, b := range edgeWords() {
			for _, f := range allFlags() {
				checkAddWords(t, a, b, f)
			}
		}
	}
}

func TestAddWordsOfAllWords(t *testing.T) {
	for a := range 65536 {
		// What just carries, and what just doesn't, out of each half, beside
		// an ordinary one.
		for _, b := range []int{65535 - a, 65536 - a, 4095 - a%4096, 4096 - a%4096, a, a * 31} {
			b = modulo(b, 65536)
			for _, f := range []api.Flags{{}, {Z: true, N: true, H: true, C: true}} {
				checkAddWords(t, a, b, f)
				checkAddWords(t, b, a, f)
			}
		}
	}
}

func TestAddSignedOfAllWordsAndBytes(t *testing.T) {
	for e := range 256 {
		signed := e
		if e >= 128 {
			signed -= 256
		}
		for w := range 65536 {
			want := modulo(w+signed, 65536)
			flags := api.Flags{H: w%16+e%16 > 15, C: w%256+e > 255}
			if x, g := AddSigned(uint16(w), uint8(e)); int(x) != want || g != flags {
				t.Fatalf("AddSigned(%d, %d) = %d, %v, want %d, %v", w, e, x, g, want, flags)
			}
		}
	}
}

func TestAddSignedHasNoZero(t *testing.T) {
	for _, k := range []struct {
		w     uint16
		e     uint8
		x     uint16
		wants api.Flags
	}{
		{0, 0, 0, api.Flags{}},
		{1, 255, 0, api.Flags{H: true, C: true}},
		{0, 255, 65535, api.Flags{}},
		{128, 128, 0, api.Flags{C: true}},
		{65535, 1, 0, api.Flags{H: true, C: true}},
		{255, 127, 382, api.Flags{H: true, C: true}},
	} {
		if x, g := AddSigned(k.w, k.e); x != k.x || g != k.wants {
			t.Errorf("AddSigned(%d, %d) = %d, %v, want %d, %v", k.w, k.e, x, g, k.x, k.wants)
		}
	}
}

// P2.7

func TestOfAndByteUndoOneAnother(t *testing.T) {
	for _, f := range allFlags() {
		if got := Of(Byte(f)); got != f {
			t.Errorf("Of(Byte(%v)) = %v", f, got)
		}
	}
	for b := range 256 {
		if got := Byte(Of(uint8(b))); int(got) != b/16*16 {
			t.Errorf("Byte(Of(%d)) = %d", b, got)
		}
	}
}

func TestWhatIsAddedIsTakenAway(t *testing.T) {
	for a := range 256 {
		for v := range 256 {
			for _, f := range allFlags() {
				sum, _ := Do(0, uint8(a), uint8(v), f)
				if back, _ := Do(2, sum, uint8(v), f); int(back) != a {
					t.Fatalf("%d and %d less %d: %d", a, v, v, back)
				}
				sum, _ = Do(1, uint8(a), uint8(v), f)
				if back, _ := Do(3, sum, uint8(v), f); int(back) != a {
					t.Fatalf("%d and %d less %d, with %v: %d", a, v, v, f, back)
				}
			}
		}
	}
}

// digits is a number below 100 as two decimal digits in a byte.
func digits(n int) uint8 {
	return uint8(n/10*16 + n%10)
}

func TestDecimalNumbersAreDecimalBehindDaa(t *testing.T) {
	for x := range 100 {
		for y := range 100 {
			for _, c := range []bool{false, true} {
				sum, f := Do(1, digits(x), digits(y), api.Flags{C: c})
				all := x + y + one(c)
				want := digits(modulo(all, 100))
				if got, g := Daa(sum, f); got != want || g != (api.Flags{Z: want == 0, C: all > 99}) {
					t.Errorf("%d and %d and %d: %d, %v", x, y, one(c), got, g)
				}
				rest, f := Do(3, digits(x), digits(y), api.Flags{C: c})
				all = x - y - one(c)
				want = digits(modulo(all, 100))
				if got, g := Daa(rest, f); got != want || g != (api.Flags{Z: want == 0, N: true, C: all < 0}) {
					t.Errorf("%d less %d less %d: %d, %v", x, y, one(c), got, g)
				}
			}
		}
	}
}

func TestIncAndDecUndoOneAnother(t *testing.T) {
	for v := range 256 {
		for _, f := range allFlags() {
			more, g := Inc(uint8(v), f)
			if back, h := Dec(more, g); int(back) != v || h.C != f.C {
				t.Errorf("Dec(Inc(%d, %v)) = %d, %v", v, f, back, h)
			}
			less, g := Dec(uint8(v), f)
			if back, h := Inc(less, g); int(back) != v || h.C != f.C {
				t.Errorf("Inc(Dec(%d, %v)) = %d, %v", v, f, back, h)
			}
		}
	}
}

// The chapter's examples

func TestExamplesOfTheChapter(t *testing.T) {
	if x, g := Do(0, 58, 198, api.Flags{}); x != 0 || g != (api.Flags{Z: true, H: true, C: true}) {
		t.Errorf("ADD: %d, %v", x, g)
	}
	if x, g := Do(2, 62, 62, api.Flags{}); x != 0 || g != (api.Flags{Z: true, N: true}) {
		t.Errorf("SUB: %d, %v", x, g)
	}
	if x, g := Do(3, 59, 79, api.Flags{C: true}); x != 235 || g != (api.Flags{N: true, H: true, C: true}) {
		t.Errorf("SBC: %d, %v", x, g)
	}
	if x, g := Daa(125, api.Flags{H: true}); x != 131 || g != (api.Flags{}) {
		t.Errorf("Daa: %d, %v", x, g)
	}
	if x, g := AddWords(35363, 1541, api.Flags{Z: true}); x != 36904 || g != (api.Flags{Z: true, H: true}) {
		t.Errorf("AddWords: %d, %v", x, g)
	}
	if x, g := AddSigned(65528, 2); x != 65530 || g != (api.Flags{}) {
		t.Errorf("AddSigned: %d, %v", x, g)
	}
}
