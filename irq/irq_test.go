package irq

import (
	"math"
	"math/rand"
	"slices"
	"testing"

	"whirligig/api"
)

// wrong are numbers that no interrupt has; among them such as come to one of
// the five when they are cut to fewer bits.
var wrong = []int{
	-1, -2, -3, -4, -5, -8, -32, -256, math.MinInt, math.MinInt + 1, math.MinInt32,
	5, 6, 7, 8, 9, 16, 31, 32, 33, 63, 64, 65, 68, 255, 256, 257, 260, 65536, 65540,
	math.MaxInt32, math.MaxInt32 + 1, 1 << 32, 1<<32 + 4, math.MaxInt - 1, math.MaxInt,
}

// edges are bytes for what a test doesn't go through wholly.
var edges = []uint8{0, 1, 4, 16, 21, 28, 31, 32, 127, 128, 170, 224, 229, 255}

// digit is a number's binary digit.
func digit(v, place int) int {
	for range place {
		v /= 2
	}
	return v % 2
}

// numbers are those from 0 to 4 whose digit is 1, by the chapter's words.
func numbers(p uint8) []int {
	var l []int
	for n := 0; n <= 4; n++ {
		if digit(int(p), n) == 1 {
			l = append(l, n)
		}
	}
	return l
}

// with is a byte whose bit n is as told, digit by digit.
func with(v uint8, n, to int) uint8 {
	sum, worth := 0, 1
	for k := range 8 {
		if k == n {
			sum += worth * to
		} else {
			sum += worth * digit(int(v), k)
		}
		worth *= 2
	}
	return uint8(sum)
}

// P14.1, R5: each If with each Ie.
func TestPending(t *testing.T) {
	for asked := range 256 {
		for let := range 256 {
			want, worth := 0, 1
			for n := range 5 {
				want += worth * digit(asked, n) * digit(let, n)
				worth *= 2
			}
			if got := Pending(api.Ints{If: uint8(asked), Ie: uint8(let)}); int(got) != want {
				t.Fatalf("If %08b, Ie %08b: %08b, not %08b", asked, let, got, want)
			}
		}
	}
}

// P14.1: written out, the chapter's example first.
func TestPendingByHand(t *testing.T) {
	for _, w := range []struct{ asked, let, want uint8 }{
		{21, 28, 20}, {0, 0, 0}, {31, 31, 31}, {255, 255, 31},
		{255, 0, 0}, {0, 255, 0}, {224, 224, 0}, {255, 32, 0}, {64, 64, 0}, {128, 128, 0},
		{255, 1, 1}, {2, 255, 2}, {4, 4, 4}, {24, 8, 8}, {16, 240, 16}, {10, 21, 0},
	} {
		if got := Pending(api.Ints{If: w.asked, Ie: w.let}); got != w.want {
			t.Errorf("If %d, Ie %d: %d, not %d", w.asked, w.let, got, w.want)
		}
	}
}

// P14.1: each byte; the bits above 4 are no interrupts.
func TestFirst(t *testing.T) {
	for p := range 256 {
		want, there := 0, false
		if l := numbers(uint8(p)); len(l) > 0 {
			want, there = l[0], true
		}
		if n, ok := First(uint8(p)); n != want || ok != there {
			t.Errorf("%08b: %d, %v, not %d, %v", p, n, ok, want, there)
		}
	}
}

// P14.1: written out, the chapter's example first.
func TestFirstByHand(t *testing.T) {
	for _, w := range []struct {
		p  uint8
		n  int
		ok bool
	}{
		{20, 2, true}, {0, 0, false}, {32, 0, false}, {64, 0, false}, {128, 0, false}, {224, 0, false},
		{1, 0, true}, {2, 1, true}, {4, 2, true}, {8, 3, true}, {16, 4, true},
		{31, 0, true}, {30, 1, true}, {28, 2, true}, {24, 3, true}, {255, 0, true}, {240, 4, true},
	} {
		if n, ok := First(w.p); n != w.n || ok != w.ok {
			t.Errorf("%d: %d, %v", w.p, n, ok)
		}
	}
}

// P14.1: each byte, the same iterator several times.
func TestAll(t *testing.T) {
	for p := range 256 {
		want := numbers(uint8(p))
		all := All(uint8(p))
		for n := range 3 {
			if got := slices.Collect(all); !slices.Equal(got, want) {
				t.Errorf("%08b, range %d: %v, not %v", p, n, got, want)
			}
		}
	}
}

// P14.1: written out.
func TestAllByHand(t *testing.T) {
	for _, w := range []struct {
		p    uint8
		want []int
	}{
		{0, nil}, {224, nil}, {1, []int{0}}, {16, []int{4}}, {20, []int{2, 4}}, {10, []int{1, 3}},
		{21, []int{0, 2, 4}}, {31, []int{0, 1, 2, 3, 4}}, {255, []int{0, 1, 2, 3, 4}}, {168, []int{3}},
	} {
		if got := slices.Collect(All(w.p)); !slices.Equal(got, w.want) {
			t.Errorf("%d: %v, not %v", w.p, got, w.want)
		}
	}
}

// P14.1: left behind each number, it tells none any more; ranged over again
// it begins at the first one.
func TestAllLeft(t *testing.T) {
	for p := range 256 {
		want := numbers(uint8(p))
		all := All(uint8(p))
		for stop := 1; stop <= len(want); stop++ {
			var got []int
			all(func(n int) bool {
				got = append(got, n)
				return len(got) < stop
			})
			if !slices.Equal(got, want[:stop]) {
				t.Errorf("%08b, left behind %d: %v", p, stop, got)
			}
		}
		if got := slices.Collect(all); !slices.Equal(got, want) {
			t.Errorf("%08b, behind it: %v", p, got)
		}
	}
}

// P14.1, R4: one iterator ranged over inside of itself, and beside another.
func TestAllNested(t *testing.T) {
	all, other := All(21), All(10)
	var got []int
	for a := range all {
		for b := range all {
			for c := range other {
				got = append(got, 100*a+10*b+c)
				break
			}
		}
	}
	if want := []int{1, 21, 41, 201, 221, 241, 401, 421, 441}; !slices.Equal(got, want) {
		t.Errorf("%v, not %v", got, want)
	}
}

// P14.2: each interrupt's, by its name.
func TestVector(t *testing.T) {
	for _, w := range []struct {
		n    int
		want uint16
	}{
		{api.IntFrame, 64}, {api.IntLcd, 72}, {api.IntTimer, 80}, {api.IntSerial, 88}, {api.IntPad, 96},
	} {
		if got, e := Vector(w.n); got != w.want || e != api.OK {
			t.Errorf("%d: %d, %d", w.n, got, e)
		}
	}
}

// P14.2, R1, P1: no interrupt has such a number.
func TestVectorWrong(t *testing.T) {
	for _, n := range wrong {
		if got, e := Vector(n); got != 0 || e != api.ErrArg {
			t.Errorf("%d: %d, %d", n, got, e)
		}
	}
}

// P14.2, R5: each If; its other bits, those above 4 too, stay, and so does Ie.
func TestAskTake(t *testing.T) {
	for asked := range 256 {
		for _, let := range edges {
			i := api.Ints{If: uint8(asked), Ie: let}
			for n := range 5 {
				if got, want := Ask(i, n), (api.Ints{If: with(i.If, n, 1), Ie: let}); got != want {
					t.Errorf("Ask %d of %+v: %+v, not %+v", n, i, got, want)
				}
				if got, want := Take(i, n), (api.Ints{If: with(i.If, n, 0), Ie: let}); got != want {
					t.Errorf("Take %d of %+v: %+v, not %+v", n, i, got, want)
				}
			}
		}
	}
}

// P14.2: written out.
func TestAskTakeByHand(t *testing.T) {
	for _, w := range []struct {
		was          uint8
		n            int
		asked, taken uint8
	}{
		{0, api.IntFrame, 1, 0}, {0, api.IntLcd, 2, 0}, {0, api.IntTimer, 4, 0}, {0, api.IntSerial, 8, 0},
		{0, api.IntPad, 16, 0}, {31, 0, 31, 30}, {31, 1, 31, 29}, {31, 2, 31, 27}, {31, 3, 31, 23},
		{31, 4, 31, 15}, {255, 4, 255, 239}, {224, 0, 225, 224}, {21, 1, 23, 21}, {21, 2, 21, 17},
	} {
		i := api.Ints{If: w.was, Ie: 9}
		if a, k := Ask(i, w.n), Take(i, w.n); a != (api.Ints{If: w.asked, Ie: 9}) || k != (api.Ints{If: w.taken, Ie: 9}) {
			t.Errorf("%d of If %d: %+v, %+v", w.n, w.was, a, k)
		}
	}
}

// P14.2, P1: numbers that none has turn nothing.
func TestAskTakeWrong(t *testing.T) {
	for asked := range 256 {
		for _, let := range edges {
			i := api.Ints{If: uint8(asked), Ie: let}
			for _, n := range wrong {
				if a, k := Ask(i, n), Take(i, n); a != i || k != i {
					t.Fatalf("%d of %+v: %+v, %+v", n, i, a, k)
				}
			}
		}
	}
}

// P14.3, R5: each If and Ie at the two places.
func TestRead(t *testing.T) {
	for asked := range 256 {
		for let := range 256 {
			i := api.Ints{If: uint8(asked), Ie: uint8(let)}
			if got := Read(i, 0xFF0F); int(got) != 224+asked%32 {
				t.Fatalf("FF0F of %+v: %d", i, got)
			}
			if got := Read(i, 0xFFFF); int(got) != let {
				t.Fatalf("FFFF of %+v: %d", i, got)
			}
		}
	}
}

// P14.3: written out, the chapter's example first.
func TestReadByHand(t *testing.T) {
	for _, w := range []struct {
		i    api.Ints
		addr uint16
		want uint8
	}{
		{api.Ints{If: 1}, 0xFF0F, 225}, {api.Ints{}, 0xFF0F, 224}, {api.Ints{If: 31}, 0xFF0F, 255},
		{api.Ints{If: 224}, 0xFF0F, 224}, {api.Ints{If: 36, Ie: 1}, 0xFF0F, 228}, {api.Ints{Ie: 255}, 0xFF0F, 224},
		{api.Ints{If: 31}, 0xFFFF, 0}, {api.Ints{Ie: 1}, 0xFFFF, 1}, {api.Ints{Ie: 224}, 0xFFFF, 224},
		{api.Ints{}, 0xFF0E, 255}, {api.Ints{}, 0xFF10, 255}, {api.Ints{}, 0xFFFE, 255}, {api.Ints{}, 0, 255},
	} {
		if got := Read(w.i, w.addr); got != w.want {
			t.Errorf("%04X of %+v: %d, not %d", w.addr, w.i, got, w.want)
		}
	}
}

// P14.3: at all other places nothing is read and nothing is turned.
func TestElsewhere(t *testing.T) {
	for addr := range 65536 {
		if addr == 0xFF0F || addr == 0xFFFF {
			continue
		}
		for _, i := range []api.Ints{{}, {If: 21, Ie: 28}, {If: 255, Ie: 1}, {If: 32, Ie: 255}} {
			if got := Read(i, uint16(addr)); got != 255 {
				t.Fatalf("%04X of %+v: %d", addr, i, got)
			}
			for _, v := range []uint8{0, 10, 255} {
				if got := Write(i, uint16(addr), v); got != i {
					t.Fatalf("%d to %04X of %+v: %+v", v, addr, i, got)
				}
			}
		}
	}
}

// P14.3, R5: each byte to both places, whatever there was; the other register
// stays.
func TestWrite(t *testing.T) {
	for v := range 256 {
		for was := range 256 {
			for _, other := range edges {
				i := api.Ints{If: uint8(was), Ie: other}
				if got := Write(i, 0xFF0F, uint8(v)); got != (api.Ints{If: uint8(v % 32), Ie: other}) {
					t.Fatalf("%d to FF0F of %+v: %+v", v, i, got)
				}
				i = api.Ints{If: other, Ie: uint8(was)}
				if got := Write(i, 0xFFFF, uint8(v)); got != (api.Ints{If: other, Ie: uint8(v)}) {
					t.Fatalf("%d to FFFF of %+v: %+v", v, i, got)
				}
			}
		}
	}
}

// P14.3: what was written is read: of If with the three bits above it.
func TestWrittenIsRead(t *testing.T) {
	for v := range 256 {
		i := Write(Write(api.Ints{If: 170, Ie: 85}, 0xFF0F, uint8(v)), 0xFFFF, uint8(255-v))
		if got := Read(i, 0xFF0F); got != uint8(v)|224 {
			t.Errorf("%d to FF0F: %d", v, got)
		}
		if got := Read(i, 0xFFFF); got != uint8(255-v) {
			t.Errorf("%d to FFFF: %d", 255-v, got)
		}
	}
}

// P14.4: the first one is the one that All tells first.
func TestFirstOfAll(t *testing.T) {
	for p := range 256 {
		n, ok := First(uint8(p))
		told := false
		for m := range All(uint8(p)) {
			told = true
			if !ok || m != n {
				t.Errorf("%08b: First %d, %v, All %d", p, n, ok, m)
			}
			break
		}
		if told != ok {
			t.Errorf("%08b: First %v, All %v", p, ok, told)
		}
	}
}

// P14.4: what was asked for is pending, if it is let in, till it is taken; no
// other one is turned.
func TestAskedTillTaken(t *testing.T) {
	for asked := range 256 {
		for let := range 256 {
			i := api.Ints{If: uint8(asked), Ie: uint8(let)}
			was := Pending(i)
			for n := range 5 {
				a := Ask(i, n)
				if got, want := Pending(a), with(was, n, digit(let, n)); got != want {
					t.Fatalf("Ask %d of %+v: %08b, not %08b", n, i, got, want)
				}
				if got, want := Pending(Take(a, n)), with(was, n, 0); got != want {
					t.Fatalf("Take %d of %+v: %08b, not %08b", n, a, got, want)
				}
			}
		}
	}
}

// P14.4: all that is pending, taken one by one, the first one first.
func TestTakenInOrder(t *testing.T) {
	i := api.Ints{Ie: 29}
	for _, n := range []int{api.IntPad, api.IntLcd, api.IntTimer, api.IntFrame} {
		i = Ask(i, n)
	}
	var got []int
	for range 8 {
		n, ok := First(Pending(i))
		if !ok {
			break
		}
		got = append(got, n)
		i = Take(i, n)
	}
	if want := []int{0, 2, 4}; !slices.Equal(got, want) {
		t.Errorf("%v, not %v", got, want)
	}
	// It was asked for, but not let in, so it waits still.
	if i != (api.Ints{If: 2, Ie: 29}) {
		t.Errorf("%+v", i)
	}
	if n, ok := First(Pending(Write(i, 0xFFFF, 2))); n != api.IntLcd || !ok {
		t.Errorf("%d, %v", n, ok)
	}
}

// P14.1 to P14.4, R4: long runs by chance, against five bools asked for and a
// byte let in.
func TestRuns(t *testing.T) {
	r := rand.New(rand.NewSource(141))
	for range 100 {
		var i api.Ints
		var asked [5]bool
		for range 500 {
			n, v := r.Intn(9)-2, uint8(r.Intn(256))
			switch r.Intn(5) {
			case 0, 1:
				i = Ask(i, n)
				if 0 <= n && n <= 4 {
					asked[n] = true
				}
			case 2:
				i = Take(i, n)
				if 0 <= n && n <= 4 {
					asked[n] = false
				}
			case 3:
				i = Write(i, 0xFF0F, v)
				for k := range asked {
					asked[k] = digit(int(v), k) == 1
				}
			case 4:
				i = Write(i, 0xFFFF, v)
			}
			var want []int
			for k, on := range asked {
				if on && digit(int(Read(i, 0xFFFF)), k) == 1 {
					want = append(want, k)
				}
			}
			if got := slices.Collect(All(Pending(i))); !slices.Equal(got, want) {
				t.Fatalf("%+v: %v, not %v", i, got, want)
			}
		}
	}
}
