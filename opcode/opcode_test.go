package opcode

import (
	"fmt"
	"math"
	"strings"
	"testing"

	"whirligig/api"
)

// said is a row of the chapter's table as it is written there; behind the
// cycles stands what is beside them.
type said struct {
	pattern       string
	kind          int
	bytes, cycles int
	beside        string
}

// plainRows is the table of P5.1, row for row.
var plainRows = []said{
	{"00000000", api.KNop, 1, 1, ""},
	{"00001000", api.KStoreSP, 3, 5, ""},
	{"00010000", api.KStop, 2, 2, ""},
	{"00011000", api.KJr, 2, 3, "X 4"},
	{"001xx000", api.KJr, 2, 2, "Taken 3"},
	{"00xx0001", api.KLoad16, 3, 3, ""},
	{"00xx1001", api.KAddHL, 1, 2, ""},
	{"00xx0010", api.KStoreA, 1, 2, ""},
	{"00xx1010", api.KLoadA, 1, 2, ""},
	{"00xx0011", api.KInc16, 1, 2, ""},
	{"00xx1011", api.KDec16, 1, 2, ""},
	{"00xxx100", api.KInc, 1, 1, "x 6: Cycles 3"},
	{"00xxx101", api.KDec, 1, 1, "x 6: Cycles 3"},
	{"00xxx110", api.KLoadN, 2, 2, "x 6: Cycles 3"},
	{"000xx111", api.KFast, 1, 1, ""},
	{"00100111", api.KDaa, 1, 1, ""},
	{"00101111", api.KCpl, 1, 1, ""},
	{"00110111", api.KScf, 1, 1, ""},
	{"00111111", api.KCcf, 1, 1, ""},
	{"01110110", api.KHalt, 1, 1, ""},
	{"01xxxyyy", api.KLoad, 1, 1, "x or y 6: Cycles 2"},
	{"10xxxyyy", api.KAlu, 1, 1, "y 6: Cycles 2"},
	{"110xx000", api.KRet, 1, 2, "Taken 5"},
	{"11100000", api.KStoreHigh, 2, 3, ""},
	{"11101000", api.KAddSP, 2, 4, ""},
	{"11110000", api.KLoadHigh, 2, 3, ""},
	{"11111000", api.KLoadHL, 2, 3, ""},
	{"11xx0001", api.KPop, 1, 3, "x 3: X 4"},
	{"11001001", api.KRet, 1, 4, "X 4"},
	{"11011001", api.KReti, 1, 4, ""},
	{"11101001", api.KJpHL, 1, 1, ""},
	{"11111001", api.KLoadSP, 1, 2, ""},
	{"110xx010", api.KJp, 3, 3, "Taken 4"},
	{"11100010", api.KStorePort, 1, 2, ""},
	{"11101010", api.KStoreFar, 3, 4, ""},
	{"11110010", api.KLoadPort, 1, 2, ""},
	{"11111010", api.KLoadFar, 3, 4, ""},
	{"11000011", api.KJp, 3, 4, "X 4"},
	{"11001011", api.KPrefix, 1, 1, ""},
	{"11110011", api.KDi, 1, 1, ""},
	{"11111011", api.KEi, 1, 1, ""},
	{"110xx100", api.KCall, 3, 3, "Taken 6"},
	{"11xx0101", api.KPush, 1, 4, "x 3: X 4"},
	{"11001101", api.KCall, 3, 6, "X 4"},
	{"11xxx110", api.KAluN, 2, 2, ""},
	{"11xxx111", api.KRst, 1, 4, ""},
	{"zzzzzzzz", api.KIllegal, 1, 1, ""},
}

// prefixedRows is what P5.2 says.
var prefixedRows = []said{
	{"00xxxyyy", api.KShift, 2, 2, "y 6: Cycles 4"},
	{"01xxxyyy", api.KBit, 2, 2, "y 6: Cycles 3"},
	{"10xxxyyy", api.KRes, 2, 2, "y 6: Cycles 4"},
	{"11xxxyyy", api.KSet, 2, 2, "y 6: Cycles 4"},
}

// lay holds an opcode's digits against a pattern: whether it fits, and the
// numbers that its letters x and y make.
func lay(pattern string, op int) (fits bool, x, y int) {
	for k, digit := range fmt.Sprintf("%08b", op) {
		bit := int(digit - '0')
		switch pattern[k] {
		case 'x':
			x = 2*x + bit
		case 'y':
			y = 2*y + bit
		case 'z':
		default:
			if int(pattern[k]-'0') != bit {
				return false, 0, 0
			}
		}
	}
	return true, x, y
}

// sayOf is the form of the first of the rows that fits.
func sayOf(op int, rows []said) api.Form {
	for _, r := range rows {
		if fits, x, y := lay(r.pattern, op); fits {
			return r.say(x, y)
		}
	}
	return api.Form{Kind: -1}
}

// say is the form of a row with these numbers, as what is beside it asks.
func (r said) say(x, y int) api.Form {
	f := api.Form{Kind: r.kind, X: x, Y: y, Bytes: r.bytes, Cycles: r.cycles, Taken: r.cycles}
	what := r.beside
	if on, then, is := strings.Cut(what, ": "); is {
		what = ""
		if strings.Contains(on, "x") && strings.HasSuffix(on, fmt.Sprint(" ", x)) || strings.Contains(on, "y") && strings.HasSuffix(on, fmt.Sprint(" ", y)) {
			what = then
		}
	}
	n := 0
	switch name, number, _ := strings.Cut(what, " "); name {
	case "X":
		fmt.Sscan(number, &f.X)
	case "Taken":
		fmt.Sscan(number, &f.Taken)
	case "Cycles":
		fmt.Sscan(number, &n)
		f.Cycles, f.Taken = n, n
	}
	return f
}

// P5.1
func TestDecode(t *testing.T) {
	for op := range 256 {
		want := sayOf(op, plainRows)
		if got := Decode(uint8(op)); got != want {
			t.Errorf("Decode(%d): %+v, not %+v", op, got, want)
		}
	}
}

// P5.2
func TestDecodeCB(t *testing.T) {
	for op := range 256 {
		want := sayOf(op, prefixedRows)
		if got := DecodeCB(uint8(op)); got != want {
			t.Errorf("DecodeCB(%d): %+v, not %+v", op, got, want)
		}
	}
}

// P5.1: each opcode's bytes, cycles, and cycles when its condition holds, by
// sixteens, written out one by one.
func TestNumbersOfAll(t *testing.T) {
	table := []struct{ bytes, cycles, taken string }{
		{"1311112131111121", "1322112152221121", "1322112152221121"},
		{"2311112121111121", "2322112132221121", "2322112132221121"},
		{"2311112121111121", "2322112122221121", "3322112132221121"},
		{"2311112121111121", "2322333122221121", "3322333132221121"},
		{"1111111111111111", "1111112111111121", "1111112111111121"},
		{"1111111111111111", "1111112111111121", "1111112111111121"},
		{"1111111111111111", "1111112111111121", "1111112111111121"},
		{"1111111111111111", "2222221211111121", "2222221211111121"},
		{"1111111111111111", "1111112111111121", "1111112111111121"},
		{"1111111111111111", "1111112111111121", "1111112111111121"},
		{"1111111111111111", "1111112111111121", "1111112111111121"},
		{"1111111111111111", "1111112111111121", "1111112111111121"},
		{"1133312111313321", "2334342424313624", "5344642454416624"},
		{"1131312111313121", "2331342424313124", "5341642454416124"},
		{"2111112121311121", "3321142441411124", "3321142441411124"},
		{"2111112121311121", "3321142432411124", "3321142432411124"},
	}
	for op := range 256 {
		f, at := Decode(uint8(op)), table[op/16]
		got := fmt.Sprint(f.Bytes, f.Cycles, f.Taken)
		want := fmt.Sprintf("%c %c %c", at.bytes[op%16], at.cycles[op%16], at.taken[op%16])
		if got != want {
			t.Errorf("Decode(%d) has bytes, cycles, taken %s, not %s", op, got, want)
		}
	}
}

// P5.3, P5.4: the eleven, and no other.
func TestIllegal(t *testing.T) {
	eleven := []byte{0xD3, 0xDB, 0xDD, 0xE3, 0xE4, 0xEB, 0xEC, 0xED, 0xF4, 0xFC, 0xFD}
	for op := range 256 {
		want := strings.IndexByte(string(eleven), byte(op)) >= 0
		if got := Illegal(uint8(op)); got != want {
			t.Errorf("Illegal(%d): %t", op, got)
		}
	}
}

// code is an opcode, and whether it stands behind the prefix.
type code struct {
	op uint8
	cb bool
}

// codes are the opcodes of all legal forms, as the chapter has them.
func codes() map[api.Form]code {
	all := map[api.Form]code{}
	for op := range 256 {
		if f := sayOf(op, plainRows); f.Kind != api.KIllegal {
			all[f] = code{uint8(op), false}
		}
		all[sayOf(op, prefixedRows)] = code{uint8(op), true}
	}
	return all
}

// P5.3, P5.4: there and back, and unlike forms of unlike opcodes.
func TestEncode(t *testing.T) {
	all := codes()
	if len(all) != 512-11 {
		t.Errorf("there are %d legal forms", len(all))
	}
	for f, want := range all {
		if op, cb, e := Encode(f); op != want.op || cb != want.cb || e != api.OK {
			t.Errorf("Encode(%+v): %d, %t, %d, not %d, %t", f, op, cb, e, want.op, want.cb)
		}
	}
}

// P5.3: there and back once more, from what this layer itself decodes.
func TestEncodeOfDecoded(t *testing.T) {
	for n := range 256 {
		op := uint8(n)
		if got, cb, e := Encode(DecodeCB(op)); got != op || !cb || e != api.OK {
			t.Errorf("Encode(DecodeCB(%d)): %d, %t, %d", op, got, cb, e)
		}
		got, cb, e := Encode(Decode(op))
		if Illegal(op) && (got != 0 || cb || e != api.ErrNone) || !Illegal(op) && (got != op || cb || e != api.OK) {
			t.Errorf("Encode(Decode(%d)): %d, %t, %d", op, got, cb, e)
		}
	}
}

// wantNone fails if a form has an opcode, or anything beside the error.
func wantNone(t *testing.T, f api.Form) {
	t.Helper()
	if op, cb, e := Encode(f); op != 0 || cb || e != api.ErrNone {
		t.Errorf("Encode(%+v): %d, %t, %d", f, op, cb, e)
	}
}

// changed are the forms that differ from f in one field by d.
func changed(f api.Form, d int) []api.Form {
	list := []api.Form{f, f, f, f, f, f}
	list[0].Kind += d
	list[1].X += d
	list[2].Y += d
	list[3].Bytes += d
	list[4].Cycles += d
	list[5].Taken += d
	return list
}

// P5.3: a form must fit in all its fields.
func TestEncodeOfChanged(t *testing.T) {
	all := codes()
	for f := range all {
		for _, d := range []int{1, -1, 2, 8, -8, 256, -256, 1 << 32, -1 << 32, math.MinInt} {
			for _, other := range changed(f, d) {
				if _, is := all[other]; !is {
					wantNone(t, other)
				}
			}
		}
	}
}

// P5.3: kinds of none, and the illegal ones in all other fields as they may be.
func TestEncodeOfNone(t *testing.T) {
	for _, kind := range []int{-1, 47, 48, 255, 256, -256, math.MaxInt, math.MinInt, api.KIllegal} {
		for _, n := range []int{0, 1, 2, 3, 6, -1, math.MaxInt, math.MinInt} {
			wantNone(t, api.Form{Kind: kind, X: n, Y: n, Bytes: n, Cycles: n, Taken: n})
			wantNone(t, api.Form{Kind: kind, X: n, Bytes: 1, Cycles: 1, Taken: 1})
			wantNone(t, api.Form{Kind: kind, X: n, Y: n, Bytes: 2, Cycles: 2, Taken: 2})
		}
	}
	wantNone(t, api.Form{})
}

// P5.4: cycles.
func TestCycles(t *testing.T) {
	check := func(op int, f api.Form) {
		if f.Cycles < 1 || f.Taken > 6 || f.Taken < f.Cycles || f.Cycles < f.Bytes {
			t.Errorf("%d: %+v", op, f)
		}
	}
	for op := range 256 {
		check(op, Decode(uint8(op)))
		check(op, DecodeCB(uint8(op)))
	}
}

// The chapter's examples, and the document's.
func TestExamples(t *testing.T) {
	for op, want := range map[uint8]api.Form{
		62:  {Kind: api.KLoadN, X: 7, Bytes: 2, Cycles: 2, Taken: 2},
		195: {Kind: api.KJp, X: 4, Bytes: 3, Cycles: 4, Taken: 4},
		205: {Kind: api.KCall, X: 4, Bytes: 3, Cycles: 6, Taken: 6},
		211: {Kind: api.KIllegal, Bytes: 1, Cycles: 1, Taken: 1},
		245: {Kind: api.KPush, X: 4, Bytes: 1, Cycles: 4, Taken: 4},
	} {
		if got := Decode(op); got != want {
			t.Errorf("Decode(%d): %+v", op, got)
		}
	}
	if got := DecodeCB(126); got != (api.Form{Kind: api.KBit, X: 7, Y: 6, Bytes: 2, Cycles: 3, Taken: 3}) {
		t.Errorf("DecodeCB(126): %+v", got)
	}
	if op, cb, e := Encode(Decode(245)); op != 245 || cb || e != api.OK {
		t.Errorf("Encode(Decode(245)): %d, %t, %d", op, cb, e)
	}
}
