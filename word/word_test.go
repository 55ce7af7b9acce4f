package word

import (
	"fmt"
	"math"
	"strings"
	"testing"

	"whirligig/api"
)

// worth is 2^n for the bits of a byte, written out so that no test leans on
// the shifts that it tests.
var worth = [8]int{1, 2, 4, 8, 16, 32, 64, 128}

// noBits are numbers that no bit of a byte has.
var noBits = []int{-1, 8, 9, -8, 15, 16, 63, 64, -64, 256, math.MaxInt32, math.MinInt32, math.MaxInt, math.MinInt}

// has tells by division alone whether bit n of v is 1.
func has(v, n int) bool {
	return v/worth[n]%2 == 1
}

// modulo8 is n modulo 8, from 0 to 7, also below 0.
func modulo8(n int) int {
	return (n%8 + 8) % 8
}

// moved is the byte whose bit to(k) is bit k of v.
func moved(v int, to func(k int) int) int {
	sum := 0
	for k := range 8 {
		if has(v, k) {
			sum += worth[to(k)]
		}
	}
	return sum
}

// turns are numbers to turn by: all small ones, and the edges of int.
func turns() []int {
	list := []int{math.MaxInt, math.MaxInt - 1, math.MaxInt - 6, math.MinInt, math.MinInt + 1, math.MinInt + 7, math.MaxInt32, math.MinInt32, 1000003, -1000003}
	for n := -20; n <= 20; n++ {
		list = append(list, n)
	}
	return list
}

// P1.1

func TestBitTellsEachBit(t *testing.T) {
	for v := range 256 {
		for n := range 8 {
			if got := Bit(uint8(v), n); got != has(v, n) {
				t.Errorf("Bit(%d, %d) = %v", v, n, got)
			}
		}
	}
}

func TestBitOutsideIsFalse(t *testing.T) {
	for _, n := range noBits {
		for v := range 256 {
			if Bit(uint8(v), n) {
				t.Errorf("Bit(%d, %d) = true", v, n)
			}
		}
	}
}

func TestPutSetsOneBit(t *testing.T) {
	for v := range 256 {
		for n := range 8 {
			without := v
			if has(v, n) {
				without -= worth[n]
			}
			if got := Put(uint8(v), n, false); int(got) != without {
				t.Errorf("Put(%d, %d, false) = %d, want %d", v, n, got, without)
			}
			if got := Put(uint8(v), n, true); int(got) != without+worth[n] {
				t.Errorf("Put(%d, %d, true) = %d, want %d", v, n, got, without+worth[n])
			}
		}
	}
}

func TestPutOutsideChangesNothing(t *testing.T) {
	for _, n := range noBits {
		for v := range 256 {
			for _, on := range []bool{false, true} {
				if got := Put(uint8(v), n, on); int(got) != v {
					t.Errorf("Put(%d, %d, %v) = %d", v, n, on, got)
				}
			}
		}
	}
}

// P1.2

func TestJoin(t *testing.T) {
	for hi := range 256 {
		for lo := range 256 {
			if got := Join(uint8(hi), uint8(lo)); int(got) != 256*hi+lo {
				t.Fatalf("Join(%d, %d) = %d", hi, lo, got)
			}
		}
	}
}

func TestSplit(t *testing.T) {
	for w := range 65536 {
		if hi, lo := Split(uint16(w)); int(hi) != w/256 || int(lo) != w%256 {
			t.Fatalf("Split(%d) = %d, %d", w, hi, lo)
		}
	}
}

// P1.3

func TestSigned(t *testing.T) {
	for v := range 256 {
		want := v
		if v >= 128 {
			want = v - 256
		}
		if got := Signed(uint8(v)); got != want {
			t.Errorf("Signed(%d) = %d, want %d", v, got, want)
		}
	}
}

func TestOnes(t *testing.T) {
	for v := range 256 {
		want := 0
		for n := range 8 {
			if has(v, n) {
				want++
			}
		}
		if got := Ones(uint8(v)); got != want {
			t.Errorf("Ones(%d) = %d, want %d", v, got, want)
		}
	}
}

// P1.4

func TestTurn(t *testing.T) {
	for _, n := range turns() {
		for v := range 256 {
			want := moved(v, func(k int) int { return (k + modulo8(n)) % 8 })
			if got := Turn(uint8(v), n); int(got) != want {
				t.Errorf("Turn(%d, %d) = %d, want %d", v, n, got, want)
			}
		}
	}
}

func TestMirror(t *testing.T) {
	for v := range 256 {
		want := moved(v, func(k int) int { return 7 - k })
		if got := Mirror(uint8(v)); int(got) != want {
			t.Errorf("Mirror(%d) = %d, want %d", v, got, want)
		}
	}
}

// P1.5

func TestHex8(t *testing.T) {
	for v := range 256 {
		if got, want := Hex8(uint8(v)), fmt.Sprintf("%02X", v); got != want {
			t.Errorf("Hex8(%d) = %q, want %q", v, got, want)
		}
	}
}

func TestHex16(t *testing.T) {
	for w := range 65536 {
		if got, want := Hex16(uint16(w)), fmt.Sprintf("%04X", w); got != want {
			t.Fatalf("Hex16(%d) = %q, want %q", w, got, want)
		}
	}
}

func TestReadNumbers(t *testing.T) {
	limit := 1
	for digits := 1; digits <= 4; digits++ {
		limit *= 16
		for w := range limit {
			for _, form := range []string{"%0*X", "%0*x"} {
				s := fmt.Sprintf(form, digits, w)
				if got, e := Read(s, digits); int(got) != w || e != api.OK {
					t.Fatalf("Read(%q, %d) = %d, %d", s, digits, got, e)
				}
			}
		}
	}
}

func TestReadMixedCase(t *testing.T) {
	for _, c := range []struct {
		s    string
		want uint16
	}{{"aBcD", 0xABCD}, {"AbCd", 0xABCD}, {"eF01", 0xEF01}, {"9fA0", 0x9FA0}} {
		if got, e := Read(c.s, 4); got != c.want || e != api.OK {
			t.Errorf("Read(%q, 4) = %d, %d, want %d", c.s, got, e, c.want)
		}
	}
}

func TestReadEveryByteAtEveryPlace(t *testing.T) {
	for digits := 1; digits <= 4; digits++ {
		for at := range digits {
			for b := range 256 {
				text := []byte(strings.Repeat("0", digits))
				text[at] = byte(b)
				want, e := uint16(0), api.ErrText
				if d := strings.IndexByte("0123456789abcdef", lower(byte(b))); d >= 0 {
					want, e = uint16(d)<<(4*(digits-1-at)), api.OK
				}
				if got, ge := Read(string(text), digits); got != want || ge != e {
					t.Errorf("Read(%q, %d) = %d, %d, want %d, %d", text, digits, got, ge, want, e)
				}
			}
		}
	}
}

// lower turns A to F alone, so that no other byte becomes a digit by it.
func lower(b byte) byte {
	if 'A' <= b && b <= 'F' {
		return b + 32
	}
	return b
}

func TestReadWrongTexts(t *testing.T) {
	long := strings.Repeat("0", 100000)
	for _, c := range []struct {
		s      string
		digits int
	}{
		{"", 1}, {"", 4}, {"0", 2}, {"00", 1}, {"fff", 4}, {"fffff", 4}, {"00001", 4}, {long, 4},
		{"g", 1}, {"G", 1}, {"/", 1}, {":", 1}, {"@", 1}, {"`", 1}, {" ", 1},
		{"0x", 2}, {"0x1f", 4}, {"+1", 2}, {"-1", 2}, {" 1", 2}, {"1 ", 2}, {"1_00", 4}, {"1\n", 2}, {"1\x00", 2},
		{"é", 1}, {"é", 2}, {"\uff11", 1}, {"\uff11", 3}, {"\u0661", 1}, {"\u0661", 2}, {"\xff", 1}, {"a\xff", 2}, {"\xc3", 1},
		{"\u0130", 1}, {"\u0130", 2}, {"\U00010041", 4}, {"\U0001F600", 4},
	} {
		if got, e := Read(c.s, c.digits); got != 0 || e != api.ErrText {
			t.Errorf("Read(%.20q, %d) = %d, %d, want 0, ErrText", c.s, c.digits, got, e)
		}
	}
}

func TestReadWrongDigitsComeFirst(t *testing.T) {
	for _, digits := range []int{0, -1, 5, 6, 8, -4, 16, math.MaxInt, math.MinInt} {
		for _, s := range []string{"", "0", "ff", "ffff", "00000", "000000", "00000000", "no digits", "\xff"} {
			if got, e := Read(s, digits); got != 0 || e != api.ErrArg {
				t.Errorf("Read(%q, %d) = %d, %d, want 0, ErrArg", s, digits, got, e)
			}
		}
	}
}

// P1.6

func TestJoinedIsSplit(t *testing.T) {
	for w := range 65536 {
		hi, lo := Split(uint16(w))
		if got := Join(hi, lo); int(got) != w {
			t.Fatalf("Join(Split(%d)) = %d", w, got)
		}
		if h, l := Split(Join(lo, hi)); h != lo || l != hi {
			t.Fatalf("Split(Join(%d, %d)) = %d, %d", lo, hi, h, l)
		}
	}
}

func TestWrittenIsRead(t *testing.T) {
	for v := range 256 {
		if got, e := Read(Hex8(uint8(v)), 2); int(got) != v || e != api.OK {
			t.Errorf("Read(Hex8(%d)) = %d, %d", v, got, e)
		}
	}
	for w := range 65536 {
		if got, e := Read(Hex16(uint16(w)), 4); int(got) != w || e != api.OK {
			t.Fatalf("Read(Hex16(%d)) = %d, %d", w, got, e)
		}
	}
}

func TestTurnedTwiceIsTurnedByBoth(t *testing.T) {
	for v := range 256 {
		for m := -17; m <= 17; m++ {
			for n := -17; n <= 17; n++ {
				if got, want := Turn(Turn(uint8(v), m), n), Turn(uint8(v), m+n); got != want {
					t.Fatalf("Turn(Turn(%d, %d), %d) = %d, by both: %d", v, m, n, got, want)
				}
			}
		}
	}
}

func TestItselfAgain(t *testing.T) {
	for v := range 256 {
		b := uint8(v)
		if got := Mirror(Mirror(b)); got != b {
			t.Errorf("Mirror twice of %d = %d", v, got)
		}
		for _, n := range []int{0, 8, -8, 16, -16, 8000, -8000} {
			if got := Turn(b, n); got != b {
				t.Errorf("Turn(%d, %d) = %d", v, n, got)
			}
		}
	}
}

func TestNoBitIsLost(t *testing.T) {
	for v := range 256 {
		b := uint8(v)
		if got := Ones(Mirror(b)); got != Ones(b) {
			t.Errorf("Mirror(%d) has %d ones", v, got)
		}
		for _, n := range turns() {
			if got := Ones(Turn(b, n)); got != Ones(b) {
				t.Errorf("Turn(%d, %d) has %d ones", v, n, got)
			}
		}
	}
}

// The chapter's examples, as they stand there.

func TestExamples(t *testing.T) {
	if !Bit(130, 7) || Bit(130, 6) {
		t.Error("Bit(130, 7), Bit(130, 6)")
	}
	if got := Put(0, 3, true); got != 8 {
		t.Errorf("Put(0, 3, true) = %d", got)
	}
	if got := Signed(254); got != -2 {
		t.Errorf("Signed(254) = %d", got)
	}
	if up, down := Turn(129, 1), Turn(129, -1); up != 3 || down != 192 {
		t.Errorf("Turn(129, 1) = %d, Turn(129, -1) = %d", up, down)
	}
	if got := Mirror(1); got != 128 {
		t.Errorf("Mirror(1) = %d", got)
	}
	if got := Hex16(45054); got != "AFFE" {
		t.Errorf("Hex16(45054) = %q", got)
	}
	if got, e := Read("fF", 2); got != 255 || e != api.OK {
		t.Errorf("Read(fF, 2) = %d, %d", got, e)
	}
}
