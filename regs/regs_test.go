package regs

import (
	"fmt"
	"math"
	"strings"
	"testing"

	"whirligig/api"
)

// samples are registers for all that is asked of some; in two of them every
// register holds another number, and two have low bits in F.
func samples() []api.Regs {
	return []api.Regs{
		{},
		Boot(),
		{A: 1, F: 0x20, B: 3, C: 4, D: 5, E: 6, H: 7, L: 8, SP: 0x090A, PC: 0x0B0C},
		{A: 0xA1, F: 0x5F, B: 0xB3, C: 0xC4, D: 0xD5, E: 0xE6, H: 0xF7, L: 0x98, SP: 0x8A9B, PC: 0x7C6D},
		{A: 255, F: 255, B: 255, C: 255, D: 255, E: 255, H: 255, L: 255, SP: 65535, PC: 65535},
	}
}

// field is where register n of 0 to 7 stands in r, and nil where none does.
func field(r *api.Regs, n int) *uint8 {
	return []*uint8{&r.B, &r.C, &r.D, &r.E, &r.H, &r.L, nil, &r.A}[n]
}

// beyond are numbers of no register, pair or condition.
var beyond = []int{
	8, 9, 10, 12, 15, 16, 63, 64, 255, 256, 65536, 1 << 32, 1<<32 + 1, math.MaxInt32, math.MaxInt - 1, math.MaxInt,
	-1, -2, -3, -4, -6, -7, -8, -64, -256, math.MinInt32, math.MinInt + 1, math.MinInt,
}

// P4.1, P4.6
func TestGetAndPut(t *testing.T) {
	check := func(r api.Regs, n int, v uint8) {
		want := r
		*field(&want, n) = v
		if got, e := Get(want, n); got != v || e != api.OK {
			t.Errorf("Get(%+v, %d): %d, %d", want, n, got, e)
		}
		if got, e := Put(r, n, v); got != want || e != api.OK {
			t.Errorf("Put(%+v, %d, %d): %+v, %d", r, n, v, got, e)
		}
	}
	for _, r := range samples() {
		for _, n := range []int{0, 1, 2, 3, 4, 5, 7} {
			for v := range 256 {
				check(r, n, uint8(v))
			}
		}
	}
}

// P4.1: what is no register's number, and R1 with it.
func TestNoRegister(t *testing.T) {
	check := func(n int, want api.Errno) {
		for _, r := range samples() {
			if v, e := Get(r, n); v != 0 || e != want {
				t.Errorf("Get(%+v, %d): %d, %d, not %d", r, n, v, e, want)
			}
			if got, e := Put(r, n, 200); got != (api.Regs{}) || e != want {
				t.Errorf("Put(%+v, %d, 200): %+v, %d, not %d", r, n, got, e, want)
			}
		}
	}
	check(6, api.ErrNone)
	for _, n := range beyond {
		check(n, api.ErrArg)
	}
}

// pairOf is a pair in whole numbers.
func pairOf(r api.Regs, n int) int {
	return []int{
		int(r.B)*256 + int(r.C),
		int(r.D)*256 + int(r.E),
		int(r.H)*256 + int(r.L),
		int(r.SP),
		int(r.A)*256 + int(r.F),
	}[n]
}

// pairSet is r with a pair that is w, as the chapter means it.
func pairSet(r api.Regs, n, w int) api.Regs {
	hi, lo := uint8(w/256), uint8(w%256)
	switch n {
	case 0:
		r.B, r.C = hi, lo
	case 1:
		r.D, r.E = hi, lo
	case 2:
		r.H, r.L = hi, lo
	case 3:
		r.SP = uint16(w)
	case 4:
		r.A, r.F = hi, lo/16*16
	}
	return r
}

// P4.2, P4.6
func TestPairs(t *testing.T) {
	for _, r := range samples() {
		for n := range 5 {
			if w, e := Pair(r, n); int(w) != pairOf(r, n) || e != api.OK {
				t.Errorf("Pair(%+v, %d): %d, %d", r, n, w, e)
			}
			for w := range 65536 {
				want := pairSet(r, n, w)
				got, e := PutPair(r, n, uint16(w))
				if got != want || e != api.OK {
					t.Fatalf("PutPair(%+v, %d, %d): %+v, %d", r, n, w, got, e)
				}
				if back, e := Pair(got, n); int(back) != pairOf(want, n) || e != api.OK {
					t.Fatalf("Pair behind PutPair of %d, %d: %d, %d", n, w, back, e)
				}
			}
		}
	}
}

// P4.2: F is told as it is, low bits and all.
func TestPairTellsFAsItIs(t *testing.T) {
	for f := range 256 {
		if w, e := Pair(api.Regs{A: 18, F: uint8(f)}, 4); int(w) != 18*256+f || e != api.OK {
			t.Errorf("Pair AF with F %d: %d, %d", f, w, e)
		}
	}
}

// P4.2: what is no pair's number, and R1 with it.
func TestNoPair(t *testing.T) {
	for _, n := range append([]int{5, 6, 7}, beyond...) {
		for _, r := range samples() {
			if w, e := Pair(r, n); w != 0 || e != api.ErrArg {
				t.Errorf("Pair(%+v, %d): %d, %d", r, n, w, e)
			}
			if got, e := PutPair(r, n, 4660); got != (api.Regs{}) || e != api.ErrArg {
				t.Errorf("PutPair(%+v, %d, 4660): %+v, %d", r, n, got, e)
			}
		}
	}
}

// P4.3
func TestFlags(t *testing.T) {
	for _, r := range samples() {
		for b := range 256 {
			r.F = uint8(b)
			want := api.Flags{Z: b >= 128, N: b/64%2 == 1, H: b/32%2 == 1, C: b/16%2 == 1}
			if f := Flags(r); f != want {
				t.Errorf("Flags with F %d: %+v", b, f)
			}
			// F's own flags, put in what holds another F.
			other, put := r, r
			other.F, put.F = ^r.F, uint8(b/16*16)
			if got := WithFlags(other, want); got != put {
				t.Errorf("WithFlags(%+v, %+v): %+v", other, want, got)
			}
		}
	}
}

// P4.3
func TestHolds(t *testing.T) {
	for b := range 256 {
		r := api.Regs{A: 170, F: uint8(b), B: ^uint8(b), SP: 43690}
		zero, carry := b/128 == 1, b/16%2 == 1
		for cond, want := range []bool{!zero, zero, !carry, carry, true, false, false, false} {
			if Holds(r, cond) != want {
				t.Errorf("Holds with F %d, condition %d: not %t", b, cond, want)
			}
		}
		for _, cond := range beyond {
			if Holds(r, cond) {
				t.Errorf("Holds with F %d, condition %d: true", b, cond)
			}
		}
	}
}

// P4.4
func TestBoot(t *testing.T) {
	want := api.Regs{A: 1, F: 176, B: 0, C: 19, D: 0, E: 216, H: 1, L: 77, SP: 65534, PC: 256}
	if got := Boot(); got != want {
		t.Errorf("Boot: %+v", got)
	}
}

// written is the text of registers, by another way.
func written(r api.Regs) string {
	return fmt.Sprintf("AF=%02X%02X BC=%02X%02X DE=%02X%02X HL=%02X%02X SP=%04X PC=%04X",
		r.A, r.F, r.B, r.C, r.D, r.E, r.H, r.L, r.SP, r.PC)
}

// P4.5
func TestText(t *testing.T) {
	if got := Text(Boot()); got != "AF=01B0 BC=0013 DE=00D8 HL=014D SP=FFFE PC=0100" {
		t.Errorf("Text of Boot: %q", got)
	}
	for _, r := range samples() {
		for b := range 256 {
			r.F = uint8(b)
			if got := Text(r); got != written(r) {
				t.Errorf("Text(%+v): %q", r, got)
			}
		}
	}
}

// checkParse holds Parse against what it must answer; what is no text is
// answered with no registers (R1).
func checkParse(t *testing.T, s string, want api.Regs, err api.Errno) {
	t.Helper()
	if got, e := Parse(s); got != want || e != err {
		t.Errorf("Parse(%q): %+v, %d, not %+v, %d", s, got, e, want, err)
	}
}

// P4.5, P4.6: all there is of each register, and of F as far as it may be.
func TestParse(t *testing.T) {
	for _, r := range samples() {
		for b := range 256 {
			r.F = uint8(b)
			if b%16 == 0 {
				checkParse(t, written(r), r, api.OK)
			} else {
				checkParse(t, written(r), api.Regs{}, api.ErrText)
			}
		}
		r.F = 80
		for v := range 256 {
			for n := range 8 {
				if p := field(&r, n); p != nil {
					*p = uint8(v)
				}
			}
			r.SP, r.PC = uint16(v*257), uint16(65535-v*257)
			checkParse(t, Text(r), r, api.OK)
		}
	}
}

// P4.5: whatever else stands at a place, it is that of other registers or of
// none.
func TestParseOneByteChanged(t *testing.T) {
	const good = "AF=9AB0 BC=0123 DE=4567 HL=89AB SP=CDEF PC=0F1E"
	for at := range len(good) {
		// Four digits stand behind each name, and F's low one must be 0.
		isDigit := at%8 >= 3 && at%8 <= 6 && at != 6
		for b := range 256 {
			s := good[:at] + string([]byte{byte(b)}) + good[at+1:]
			digit := strings.IndexByte("0123456789ABCDEF", byte(b)) >= 0
			got, e := Parse(s)
			if s == good || isDigit && digit {
				if e != api.OK || written(got) != s {
					t.Errorf("Parse(%q): %+v, %d", s, got, e)
				}
			} else if e != api.ErrText || got != (api.Regs{}) {
				t.Errorf("Parse(%q): %+v, %d, not ErrText", s, got, e)
			}
		}
	}
}

// P4.5: texts of another shape.
func TestParseNoText(t *testing.T) {
	good := Text(Boot())
	for n := range len(good) {
		checkParse(t, good[:n], api.Regs{}, api.ErrText)
		checkParse(t, good[n+1:], api.Regs{}, api.ErrText)
		checkParse(t, good[:n]+good[n+1:], api.Regs{}, api.ErrText)
		checkParse(t, good[:n]+" "+good[n:], api.Regs{}, api.ErrText)
		checkParse(t, good[:n]+"0"+good[n:], api.Regs{}, api.ErrText)
	}
	for _, s := range []string{
		good + " ", " " + good, good + "\n", good + good, good + "0", good + "\x00",
		strings.ToLower(good),
		strings.ReplaceAll(good, "D8", "d8"),
		strings.ReplaceAll(good, "FFFE", "ffff"),
		strings.ReplaceAll(good, " ", "\t"),
		strings.ReplaceAll(good, " ", "  "),
		strings.ReplaceAll(good, " ", ""),
		strings.ReplaceAll(good, "=", ":"),
		strings.ReplaceAll(good, "0013", "ж1ж"[:4]),
		strings.ReplaceAll(good, "0013", "\xff\xfe\xfd\xfc"),
		strings.ReplaceAll(good, "0013", "+013"),
		strings.ReplaceAll(good, "0013", "0x13"),
		"BC=0013 AF=01B0 DE=00D8 HL=014D SP=FFFE PC=0100",
		"AF=01B0 BC=0013 DE=00D8 HL=014D PC=0100 SP=FFFE",
		"AF=01B0 BC=0013 DE=00D8 HL=014D SP=FFFE SP=0100",
		strings.Repeat("0", len(good)), strings.Repeat("\xf0", len(good)), strings.Repeat("AF=0000 ", 6)[:47],
	} {
		checkParse(t, s, api.Regs{}, api.ErrText)
	}
}

// The chapter's examples.
func TestChapterExamples(t *testing.T) {
	r := Boot()
	if v, e := Get(r, 5); v != 77 || e != api.OK {
		t.Errorf("Get: %d, %d", v, e)
	}
	if w, e := Pair(r, 4); w != 432 || e != api.OK {
		t.Errorf("Pair: %d, %d", w, e)
	}
	want := r
	want.A, want.F = 255, 240
	if got, e := PutPair(r, 4, 65535); got != want || e != api.OK {
		t.Errorf("PutPair: %+v, %d", got, e)
	}
	if !Holds(r, 1) {
		t.Error("Holds: false")
	}
}
