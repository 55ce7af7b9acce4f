package shift

import (
	"math"
	"testing"

	"whirligig/api"
)

// The shifts' names, as far as tests need them.
const (
	rlc = iota
	rrc
	rl
	rr
	sla
	sra
	swap
	srl
)

// flagsOf are the flags of a number from 0 to 15.
func flagsOf(k int) api.Flags {
	return api.Flags{Z: k/8 == 1, N: k/4%2 == 1, H: k/2%2 == 1, C: k%2 == 1}
}

// eachFlags goes through the sixteen of them with each byte.
func eachFlags(do func(v int, f api.Flags)) {
	for v := range 256 {
		for k := range 16 {
			do(v, flagsOf(k))
		}
	}
}

// from0 is n modulo m, from 0 to m - 1, by division.
func from0(n, m int) int {
	rest := n % m
	if rest < 0 {
		rest += m
	}
	return rest
}

// anyNumbers are numbers of shifts and bits, within their bounds and beyond.
func anyNumbers() []int {
	list := []int{
		math.MaxInt, math.MaxInt - 1, math.MaxInt - 6, math.MinInt, math.MinInt + 1, math.MinInt + 6,
		math.MaxInt32, math.MinInt32, 63, 64, 65, -63, -64, -65, 255, 256, -255, -256, 1000003, -1000003,
	}
	for n := -35; n <= 35; n++ {
		list = append(list, n)
	}
	return list
}

// meant is what a shift from 0 to 7 is, in whole numbers.
func meant(op, v int, f api.Flags) (int, api.Flags) {
	carry := 0
	if f.C {
		carry = 1
	}
	x, out := v, 0
	switch op {
	case rlc, rl, sla:
		out = v / 128
		x = v%128*2 + []int{rlc: out, rl: carry, sla: 0}[op]
	case rrc, rr, sra, srl:
		out = v % 2
		x = v/2 + 128*[]int{rrc: out, rr: carry, sra: v / 128, srl: 0}[op]
	case swap:
		x = v%16*16 + v/16
	}
	return x, api.Flags{Z: x == 0, C: out == 1}
}

// checkDo holds Do of any op against what op modulo 8 means.
func checkDo(t *testing.T, op, v int, f api.Flags) {
	t.Helper()
	want, flags := meant(from0(op, 8), v, f)
	if x, g := Do(op, uint8(v), f); int(x) != want || g != flags {
		t.Errorf("Do(%d, %d, %v) = %d, %v, want %d, %v", op, v, f, x, g, want, flags)
	}
}

// P3.1

func TestDoIsEachShiftOfAllBytes(t *testing.T) {
	for op := range 8 {
		eachFlags(func(v int, f api.Flags) { checkDo(t, op, v, f) })
	}
}

func TestDoOfOtherNumbersCountsModulo8(t *testing.T) {
	for _, op := range anyNumbers() {
		eachFlags(func(v int, f api.Flags) { checkDo(t, op, v, f) })
	}
}

func TestDoAtItsEnds(t *testing.T) {
	none, carry := api.Flags{}, api.Flags{C: true}
	zero, both := api.Flags{Z: true}, api.Flags{Z: true, C: true}
	all := api.Flags{Z: true, N: true, H: true, C: true}
	for _, k := range []struct {
		name  string
		op    int
		v     uint8
		f     api.Flags
		x     uint8
		wants api.Flags
	}{
		{"RLC brings in what went out", rlc, 128, none, 1, carry},
		{"RLC leaves the carry out", rlc, 0, all, 0, zero},
		{"RL brings in the carry", rl, 128, carry, 1, carry},
		{"RL without a carry", rl, 128, none, 0, both},
		{"SLA brings in nothing", sla, 128, all, 0, both},
		{"RRC brings in what went out", rrc, 1, none, 128, carry},
		{"RRC leaves the carry out", rrc, 0, all, 0, zero},
		{"RR brings in the carry", rr, 1, carry, 128, carry},
		{"RR without a carry", rr, 1, none, 0, both},
		{"SRA keeps bit 7", sra, 129, none, 192, carry},
		{"SRA leaves the carry out", sra, 1, all, 0, both},
		{"SRL brings in nothing", srl, 129, all, 64, carry},
		{"SWAP lets nothing out", swap, 255, all, 255, none},
		{"SWAP of two digits", swap, 0x1E, all, 0xE1, none},
		{"SWAP of 0", swap, 0, carry, 0, zero},
	} {
		if x, g := Do(k.op, k.v, k.f); x != k.x || g != k.wants {
			t.Errorf("%s: Do(%d, %d, %v) = %d, %v, want %d, %v", k.name, k.op, k.v, k.f, x, g, k.x, k.wants)
		}
	}
}

// P3.2

func TestFastIsDoOfFourWithoutZ(t *testing.T) {
	for _, op := range anyNumbers() {
		eachFlags(func(v int, f api.Flags) {
			want, flags := meant(from0(op, 4), v, f)
			flags.Z = false
			if x, g := Fast(op, uint8(v), f); int(x) != want || g != flags {
				t.Errorf("Fast(%d, %d, %v) = %d, %v, want %d, %v", op, v, f, x, g, want, flags)
			}
		})
	}
}

// P3.3

// worthOf is what bit n is worth, n counted modulo 8.
func worthOf(n int) int {
	return []int{1, 2, 4, 8, 16, 32, 64, 128}[from0(n, 8)]
}

func TestTestTellsWhetherABitIs0(t *testing.T) {
	for _, n := range anyNumbers() {
		eachFlags(func(v int, f api.Flags) {
			want := api.Flags{Z: v/worthOf(n)%2 == 0, H: true, C: f.C}
			if g := Test(n, uint8(v), f); g != want {
				t.Errorf("Test(%d, %d, %v) = %v, want %v", n, v, f, g, want)
			}
		})
	}
}

func TestResAndSetChangeOneBit(t *testing.T) {
	for _, n := range anyNumbers() {
		for v := range 256 {
			worth := worthOf(n)
			without := v - v/worth%2*worth
			if x := Res(n, uint8(v)); int(x) != without {
				t.Errorf("Res(%d, %d) = %d, want %d", n, v, x, without)
			}
			if x := Set(n, uint8(v)); int(x) != without+worth {
				t.Errorf("Set(%d, %d) = %d, want %d", n, v, x, without+worth)
			}
		}
	}
}

// P3.4

func TestTurnsUndoOneAnother(t *testing.T) {
	for _, pair := range [][2]int{{rlc, rrc}, {rrc, rlc}, {rl, rr}, {rr, rl}} {
		eachFlags(func(v int, f api.Flags) {
			x, g := Do(pair[0], uint8(v), f)
			back, h := Do(pair[1], x, g)
			if int(back) != v {
				t.Errorf("%d behind %d, of %d and %v: %d", pair[1], pair[0], v, f, back)
			}
			through := pair[0] == rl || pair[0] == rr
			if through && h.C != f.C {
				t.Errorf("%d behind %d, of %d and %v: carry %v", pair[1], pair[0], v, f, h.C)
			}
		})
	}
}

func TestNineTurnsThroughTheCarryAreNothing(t *testing.T) {
	for _, op := range []int{rl, rr} {
		eachFlags(func(v int, f api.Flags) {
			x, g := uint8(v), f
			for range 9 {
				x, g = Do(op, x, g)
			}
			if int(x) != v || g.C != f.C {
				t.Errorf("nine times %d of %d, %v: %d, %v", op, v, f, x, g)
			}
		})
	}
}

func TestShiftsDoubleAndHalve(t *testing.T) {
	eachFlags(func(v int, f api.Flags) {
		if x, g := Do(sla, uint8(v), f); int(x) != v*2%256 || g.C != (v*2 > 255) {
			t.Errorf("SLA of %d: %d, %v", v, x, g)
		}
		if x, g := Do(srl, uint8(v), f); int(x) != v/2 || g.C != (v%2 == 1) {
			t.Errorf("SRL of %d: %d, %v", v, x, g)
		}
		signed := float64(int8(v))
		if x, _ := Do(sra, uint8(v), f); float64(int8(x)) != math.Floor(signed/2) {
			t.Errorf("SRA of %v: %d", signed, int8(x))
		}
	})
}

func TestSwapTwiceIsNothing(t *testing.T) {
	eachFlags(func(v int, f api.Flags) {
		x, g := Do(swap, uint8(v), f)
		if back, h := Do(swap, x, g); int(back) != v || h != (api.Flags{Z: v == 0}) {
			t.Errorf("SWAP twice of %d, %v: %d, %v", v, f, back, h)
		}
	})
}

// The chapter's examples

func TestExamplesOfTheChapter(t *testing.T) {
	none, carry := api.Flags{}, api.Flags{C: true}
	if x, g := Do(0, 133, none); x != 11 || g != carry {
		t.Errorf("Do(0, 133): %d, %v", x, g)
	}
	if x, g := Do(3, 1, none); x != 0 || g != (api.Flags{Z: true, C: true}) {
		t.Errorf("Do(3, 1): %d, %v", x, g)
	}
	if x, g := Do(5, 138, none); x != 197 || g != none {
		t.Errorf("Do(5, 138): %d, %v", x, g)
	}
	if x, g := Do(6, 240, none); x != 15 || g != none {
		t.Errorf("Do(6, 240): %d, %v", x, g)
	}
	if x, g := Fast(2, 149, carry); x != 43 || g != carry {
		t.Errorf("Fast(2, 149): %d, %v", x, g)
	}
	if g := Test(7, 128, none); g != (api.Flags{H: true}) {
		t.Errorf("Test(7, 128): %v", g)
	}
}
