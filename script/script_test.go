package script

import (
	"errors"
	"math"
	"math/rand"
	"slices"
	"strings"
	"testing"

	"whirligig/api"
)

// lines are a script of these lines.
func lines(l ...string) string {
	return strings.Join(l, "\n")
}

// wantOrders holds what a script is read as against orders.
func wantOrders(t *testing.T, s string, want ...api.Order) {
	t.Helper()
	if l, n, e := Parse(s); !slices.Equal(l, want) || n != 0 || e != api.OK {
		t.Errorf("Parse(%q): %v, %d, %d; want %v", s, l, n, e, want)
	}
}

// wantFault holds where and why a script gives up against these.
func wantFault(t *testing.T, s string, line int, why api.Errno) {
	t.Helper()
	if l, n, e := Parse(s); len(l) != 0 || n != line || e != why {
		t.Errorf("Parse(%q): %v, %d, %d; want line %d, %d", s, l, n, e, line, why)
	}
}

// spelt are lines, and the order that each is; what Text writes of it is that
// line once more.
var spelt = []struct {
	line string
	o    api.Order
}{
	{"run 1", api.Order{Kind: api.OrderRun, N: 1}},
	{"run 9", api.Order{Kind: api.OrderRun, N: 9}},
	{"run 10", api.Order{Kind: api.OrderRun, N: 10}},
	{"run 17556", api.Order{Kind: api.OrderRun, N: 17556}},
	{"run 999999", api.Order{Kind: api.OrderRun, N: 999999}},
	{"run 1000000", api.Order{Kind: api.OrderRun, N: 1000000}},
	{"keys 00", api.Order{Kind: api.OrderKeys}},
	{"keys 0A", api.Order{Kind: api.OrderKeys, N: 10}},
	{"keys A0", api.Order{Kind: api.OrderKeys, N: 160}},
	{"keys FF", api.Order{Kind: api.OrderKeys, N: 255}},
	{"bit 0", api.Order{Kind: api.OrderBit}},
	{"bit 1", api.Order{Kind: api.OrderBit, N: 1}},
	{"edge", api.Order{Kind: api.OrderEdge}},
	{"tick", api.Order{Kind: api.OrderTick}},
	{"trace on", api.Order{Kind: api.OrderTrace, N: 1}},
	{"trace off", api.Order{Kind: api.OrderTrace}},
	{"regs", api.Order{Kind: api.OrderRegs}},
	{"peek 0000", api.Order{Kind: api.OrderPeek}},
	{"peek 00FF", api.Order{Kind: api.OrderPeek, N: 255}},
	{"peek C0DE", api.Order{Kind: api.OrderPeek, N: 0xc0de}},
	{"peek FFFF", api.Order{Kind: api.OrderPeek, N: 65535}},
	{"frame", api.Order{Kind: api.OrderFrame}},
	{"line 0", api.Order{Kind: api.OrderLine}},
	{"line 9", api.Order{Kind: api.OrderLine, N: 9}},
	{"line 99", api.Order{Kind: api.OrderLine, N: 99}},
	{"line 143", api.Order{Kind: api.OrderLine, N: 143}},
	{"save", api.Order{Kind: api.OrderSave}},
}

// Each line is its order, with its end or without (P25.1), and the order is
// that line (P25.2).
func TestEachLine(t *testing.T) {
	for _, c := range spelt {
		wantOrders(t, c.line, c.o)
		wantOrders(t, c.line+"\n", c.o)
		if got := Text([]api.Order{c.o}); got != c.line+"\n" {
			t.Errorf("Text(%v): %q", c.o, got)
		}
	}
}

// All numbers that a line may say, and those beside them (P25.1, P25.2).
func TestEachNumber(t *testing.T) {
	for n := range 256 {
		wantOrders(t, "keys "+hex(n, 2), api.Order{Kind: api.OrderKeys, N: n})
		wantOrders(t, "keys "+strings.ToLower(hex(n, 2)), api.Order{Kind: api.OrderKeys, N: n})
	}
	for n := range 65536 {
		wantOrders(t, "peek "+hex(n, 4), api.Order{Kind: api.OrderPeek, N: n})
		wantOrders(t, "peek "+strings.ToLower(hex(n, 4)), api.Order{Kind: api.OrderPeek, N: n})
	}
	for n := range 144 {
		wantOrders(t, "line "+number(n), api.Order{Kind: api.OrderLine, N: n})
	}
	for n := 144; n < 1500; n++ {
		wantFault(t, "line "+number(n), 1, api.ErrText)
	}
	for n := 2; n < 300; n++ {
		wantFault(t, "bit "+number(n), 1, api.ErrText)
	}
	for n := 1; n <= 1000000; n += 1 + n/100 {
		wantOrders(t, "run "+number(n), api.Order{Kind: api.OrderRun, N: n})
	}
}

// hex and number write numbers without the program's help.
func hex(n, digits int) string {
	s := ""
	for range digits {
		s = "0123456789ABCDEF"[n%16:][:1] + s
		n /= 16
	}
	return s
}

func number(n int) string {
	s := ""
	for n >= 10 {
		s = "0123456789"[n%10:][:1] + s
		n /= 10
	}
	return "0123456789"[n:][:1] + s
}

// wrong are lines that are none.
var wrong = []string{
	"run", "run ", "run 0", "run 00", "run 01", "run 0005", "run 1000001", "run 1000010", "run 9999999", "run -1", "run -0", "run +1", "run 1.", "run 1.0", "run 1e3", "run 0x10", "run 1_000", "run 5 ", "run  5", " run 5", "run\t5", "run 5 5", "run5", "Run 5", "RUN 5", "runs 5", "ru 5", "run A", "run five", "run 5\r", "run 5#", "run 5 # five",
	"run 9223372036854775807", "run 9223372036854775808", "run 18446744073709551617", "run 36893488147419103233", "run " + strings.Repeat("9", 400), "run " + strings.Repeat("0", 400) + "1",
	"run \u0665", "run \uff15", "run 5\x00", "run \xff", "run \x005", "\xffrun 5", "run\u00a05", "r\u00fcn 5",
	"keys", "keys ", "keys 5", "keys 005", "keys 0", "keys 0G", "keys G0", "keys 0x", "keys +1", "keys -1", "keys 1 ", "keys  1", "keys 1\r", "keys 100", "keys 01 ", "keys 0 1", "key 01", "keys \u00e9", "keys \xff\xff", "Keys 01", "keys 01 02",
	"bit", "bit ", "bit 2", "bit 00", "bit 01", "bit 10", "bit -0", "bit -1", "bit +1", "bit on", "bit off", "bit true", "bits 1", "bit  1", "bit 1 ",
	"edge ", " edge", "edge 1", "edge 0", "edges", "edg", "Edge", "edge\r", "edge\t", "edge on", "edge#",
	"tick ", " tick", "tick 1", "tick 0", "ticks", "tic", "TICK",
	"trace", "trace ", "trace  on", "trace on ", "trace 1", "trace 0", "trace On", "trace ON", "trace of", "trace offf", "trace o", "trace true", "trace onoff", "trace on off",
	"regs ", " regs", "regs 0", "reg", "regs\r", "registers",
	"peek", "peek ", "peek 0", "peek FF", "peek FFF", "peek FFFFF", "peek 00000", "peek 0x00", "peek 12 4", "peek FFFF ", "peek  FFFF", "peek FFFG", "peek $FFF", "peek -FFF", "peek \u00e9\u00e9", "peek 255 ",
	"frame ", "frame 0", "frame 1", "frames", "fram",
	"line", "line ", "line 144", "line 145", "line 256", "line 1000", "line 00", "line 01", "line 007", "line -1", "line -0", "line +1", "line 1 ", "line  1", "line 0x1", "line A", "lines 1", "line 4294967296", "line 18446744073709551616",
	"save ", "save 0", "saves", "sav", " save",
	" ", "  ", "\t", "\r", "\x00", " #", " # a comment", "\t#", "nothing", "0", "5", "-", "?", "on", "off", "run 5;run 5", "run 5\vrun 5", "run 5\u2028run 5", "trace on,regs", "regs regs", "\ufeffregs", strings.Repeat(" ", 5000), strings.Repeat("run ", 3000), strings.Repeat("x", 5000),
}

// A line that is none gives up, wherever it stands (P25.1).
func TestWrongLines(t *testing.T) {
	for _, line := range wrong {
		wantFault(t, line, 1, api.ErrText)
		wantFault(t, line+"\n", 1, api.ErrText)
		wantFault(t, line+"\n\n", 1, api.ErrText)
		wantFault(t, "\n"+line, 2, api.ErrText)
		wantFault(t, lines("regs", "# here", "run 5", line, "regs"), 4, api.ErrText)
		wantFault(t, lines("", line, line), 2, api.ErrText)
	}
}

// Lines changed in one byte are those that they became, or none (P25.1).
func TestSpoiltLines(t *testing.T) {
	orders := map[string]api.Order{}
	for _, c := range spelt {
		orders[c.line] = c.o
	}
	for _, line := range []string{"edge", "tick", "trace on", "trace off", "regs", "frame", "save", "bit 0", "bit 1"} {
		for at := range line {
			for b := range 256 {
				spoilt := line[:at] + string([]byte{byte(b)}) + line[at+1:]
				if b == '\n' || at == 0 && b == '#' {
					continue
				}
				if o, ok := orders[spoilt]; ok {
					wantOrders(t, spoilt, o)
				} else {
					wantFault(t, spoilt, 1, api.ErrText)
				}
			}
			wantFault(t, line[:at]+" "+line[at:], 1, api.ErrText)
			if at > 0 {
				wantFault(t, line[:at], 1, api.ErrText)
			}
		}
	}
}

// Empty lines and comments say nothing, but count (P25.1).
func TestSaysNothing(t *testing.T) {
	for _, s := range []string{"", "\n", "\n\n\n", "#", "#\n", "# run 5", "#run 5\n", "##", "#\n#\n\n#", "# \xff\x00\r\t", "#" + strings.Repeat("x", 100000), strings.Repeat("\n", 100000)} {
		wantOrders(t, s)
	}
	regs, run := api.Order{Kind: api.OrderRegs}, api.Order{Kind: api.OrderRun, N: 5}
	wantOrders(t, "\n\n#x\nregs", regs)
	wantOrders(t, "regs\n\n\n#x", regs)
	wantOrders(t, "regs\n#\n\nrun 5\n\n", regs, run)
	wantFault(t, "\n\n#x\n\nnone", 5, api.ErrText)
	wantFault(t, strings.Repeat("\n", 9999)+"none\n", 10000, api.ErrText)
	wantFault(t, strings.Repeat("regs\n", 9999)+"none\n", 10000, api.ErrText)
	wantFault(t, "regs\r\nregs\r\n", 1, api.ErrText)
}

// Orders stand one behind the other, as many as there are (P25.1).
func TestManyOrders(t *testing.T) {
	all := ""
	var want []api.Order
	for _, c := range spelt {
		if c.o.Kind != api.OrderRun || c.o.N < 20000 {
			all += c.line + "\n"
			want = append(want, c.o)
		}
	}
	wantOrders(t, all, want...)
	wantOrders(t, all[:len(all)-1], want...)
	wantOrders(t, all+all, append(slices.Clone(want), want...)...)
	wantOrders(t, strings.ReplaceAll(all, "\n", "\n\n# so\n"), want...)
	if l, _, _ := Parse(strings.Repeat("tick\n", 1048576)); len(l) != 1048576 {
		t.Error(len(l))
	}
}

// Where there are too many cycles: the first line with which it is so (P25.1).
func TestTooManyCycles(t *testing.T) {
	for _, s := range []string{
		lines("run 1000000", "run 48576"),
		lines("run 1000000", "run 48575", "edge"),
		lines("run 1000000", "run 48575", "tick"),
		lines("tick", "edge", "run 48574", "run 1000000"),
		lines("run 1000000", "run 48576", "regs", "keys FF", "bit 1", "trace on", "peek FFFF", "frame", "line 143", "save", "", "# run 1"),
		strings.Repeat("tick\n", 1048576),
		strings.Repeat("edge\n", 48576) + "run 1000000",
	} {
		if l, n, e := Parse(s); n != 0 || e != api.OK || Cycles(l) != api.MaxSteps {
			t.Errorf("%.40q: %d, %d, %d cycles", s, n, e, Cycles(l))
		}
	}
	wantFault(t, lines("run 1000000", "run 48577"), 2, api.ErrSize)
	wantFault(t, lines("run 1000000", "run 48576", "", "tick"), 4, api.ErrSize)
	wantFault(t, lines("run 1000000", "run 48576", "#", "edge"), 4, api.ErrSize)
	wantFault(t, lines("run 1000000", "run 48576", "run 1"), 3, api.ErrSize)
	wantFault(t, lines("run 1000000", "run 48576", "regs", "run 1", "regs", "tick"), 4, api.ErrSize)
	wantFault(t, lines("run 1000000", "run 1000000", "run 1000000"), 2, api.ErrSize)
	wantFault(t, lines("run 600000", "run 400000", "run 48577", "run 1", "regs"), 3, api.ErrSize)
	wantFault(t, strings.Repeat("edge\n", 48577)+"run 1000000", 48578, api.ErrSize)
	wantFault(t, strings.Repeat("tick\n", 1048577), 1048577, api.ErrSize)
	wantFault(t, strings.Repeat("run 1000000\n", 100000), 2, api.ErrSize)
}

// A line that is none is named first, so that it is answered, on whichever side
// of too many cycles it stands (R1).
func TestTextAheadOfSize(t *testing.T) {
	wantFault(t, lines("none", "run 1000000", "run 1000000"), 1, api.ErrText)
	wantFault(t, lines("run 1000000", "none", "run 1000000"), 2, api.ErrText)
	wantFault(t, lines("run 1000000", "run 1000000", "none"), 3, api.ErrText)
	wantFault(t, lines("run 1000000", "run 1000001"), 2, api.ErrText)
	wantFault(t, lines("run 1000000", "run 48576", "tick", "tick ", "none"), 4, api.ErrText)
}

// mayBe are the orders of a kind that may be, after the chapter's words.
func mayBe(o api.Order) bool {
	switch o.Kind {
	case api.OrderRun:
		return o.N >= 1 && o.N <= 1000000
	case api.OrderKeys:
		return o.N >= 0 && o.N <= 255
	case api.OrderBit, api.OrderTrace:
		return o.N == 0 || o.N == 1
	case api.OrderPeek:
		return o.N >= 0 && o.N <= 65535
	case api.OrderLine:
		return o.N >= 0 && o.N <= 143
	case api.OrderEdge, api.OrderTick, api.OrderRegs, api.OrderFrame, api.OrderSave:
		return o.N == 0
	}
	return false
}

// edges are numbers at which something may change.
var edges = []int{math.MinInt, -1 << 32, -65536, -256, -144, -2, -1, 0, 1, 2, 9, 10, 142, 143, 144, 254, 255, 256, 257, 65534, 65535, 65536, 65537, 999999, 1000000, 1000001, 1048576, 1 << 32, 1<<32 + 1, math.MaxInt}

// Of orders that may not be there is no line and no cycle (P25.2).
func TestOrdersThatMayNotBe(t *testing.T) {
	kinds := []int{math.MinInt, -1, 0, 1, 2, 3, 4, 5, 6, 7, 8, 9, 10, 11, 12, 13, 255, 257, 1<<32 + 1, math.MaxInt}
	for _, kind := range kinds {
		for _, n := range edges {
			o := api.Order{Kind: kind, N: n}
			l := []api.Order{{Kind: api.OrderTick}, o, {Kind: api.OrderRegs}}
			text, cycles := Text(l), Cycles(l)
			if !mayBe(o) {
				if text != "tick\nregs\n" || cycles != 1 {
					t.Errorf("%v: %q, %d", o, text, cycles)
				}
				continue
			}
			if strings.Count(text, "\n") != 3 {
				t.Errorf("%v: %q", o, text)
			}
			if got, n, e := Parse(text); !slices.Equal(got, l) || n != 0 || e != api.OK {
				t.Errorf("Parse(%q): %v, %d, %d", text, got, n, e)
			}
		}
	}
}

// Cycles are those of runs, edges and ticks, without a bound (P25.2).
func TestCycles(t *testing.T) {
	for _, c := range spelt {
		want := 0
		switch c.o.Kind {
		case api.OrderRun:
			want = c.o.N
		case api.OrderEdge, api.OrderTick:
			want = 1
		}
		if got := Cycles([]api.Order{c.o}); got != want {
			t.Errorf("%s: %d", c.line, got)
		}
	}
	l := []api.Order{{Kind: api.OrderRun, N: 5}, {Kind: api.OrderKeys, N: 256}, {Kind: api.OrderKeys, N: 171}, {Kind: 12}, {Kind: api.OrderTrace, N: 1}, {Kind: api.OrderTick}, {Kind: api.OrderEdge}, {Kind: api.OrderEdge, N: 1}, {Kind: api.OrderTick, N: -1}, {Kind: api.OrderRun}, {Kind: api.OrderRun, N: 1000001}, {Kind: api.OrderRun, N: 1000000}}
	if got := Cycles(l); got != 1000007 {
		t.Error(got)
	}
	if got := Text(l); got != "run 5\nkeys AB\ntrace on\ntick\nedge\nrun 1000000\n" {
		t.Errorf("%q", got)
	}
	if got := Cycles(slices.Repeat([]api.Order{{Kind: api.OrderRun, N: 1000000}}, 5000)); got != 5000000000 {
		t.Error(got)
	}
	if Cycles(nil) != 0 || Text(nil) != "" {
		t.Error("no orders")
	}
}

// chanceOrder is one that may be; of runs mostly short ones.
func chanceOrder(r *rand.Rand) api.Order {
	o := spelt[r.Intn(len(spelt))].o
	switch o.Kind {
	case api.OrderRun:
		o.N = 1 + r.Intn(100)
	case api.OrderKeys:
		o.N = r.Intn(256)
	case api.OrderPeek:
		o.N = r.Intn(65536)
	case api.OrderLine:
		o.N = r.Intn(144)
	}
	return o
}

// What was written is read as it was, with comments between and without (P25.4,
// P2), and what was handed in stays (R3).
func TestThereAndBack(t *testing.T) {
	r := rand.New(rand.NewSource(25))
	for range 2000 {
		l := make([]api.Order, r.Intn(60))
		for i := range l {
			l[i] = chanceOrder(r)
		}
		kept := slices.Clone(l)
		text := Text(l)
		wantOrders(t, text, kept...)
		if !slices.Equal(l, kept) || strings.Count(text, "\n") != len(l) {
			t.Fatalf("%v became %v, %q", kept, l, text)
		}
		wantOrders(t, strings.TrimSuffix(text, "\n"), kept...)
		wantOrders(t, "# ahead\n\n"+strings.ReplaceAll(text, "\n", "\n#behind\n\n"), kept...)
		if got, _, _ := Parse(text); Text(got) != text {
			t.Fatalf("%q became %q", text, Text(got))
		}
	}
}

// Scripts of right and wrong lines by chance, against the chapter's words: the
// first line that is none, else the first one with too many cycles (P25.1, R1).
func TestChanceScripts(t *testing.T) {
	r := rand.New(rand.NewSource(251))
	for range 3000 {
		var l []string
		var want []api.Order
		cycles, bad, long := 0, 0, 0
		size := r.Intn(30)
		for n := 1; n <= size; n++ {
			switch r.Intn(12) {
			case 0:
				l = append(l, []string{"", "#", "# run 5"}[r.Intn(3)])
				continue
			case 1:
				if r.Intn(4) == 0 {
					l = append(l, wrong[r.Intn(len(wrong))])
					if bad == 0 {
						bad = n
					}
					continue
				}
			}
			c := spelt[r.Intn(len(spelt))]
			l, want = append(l, c.line), append(want, c.o)
			if c.o.Kind == api.OrderRun {
				cycles += c.o.N
			} else if c.o.Kind == api.OrderEdge || c.o.Kind == api.OrderTick {
				cycles++
			}
			if cycles > 1048576 && long == 0 {
				long = n
			}
		}
		switch s := lines(l...); {
		case bad != 0:
			wantFault(t, s, bad, api.ErrText)
		case long != 0:
			wantFault(t, s, long, api.ErrSize)
		default:
			wantOrders(t, s, want...)
		}
	}
}

// What a line that is none gives up by is an error of the layer's own, with a
// text of its own.
func TestFault(t *testing.T) {
	_, err := read("regs\nnone")
	var f *fault
	if !errors.As(err, &f) || f.line != 2 || f.why != api.ErrText || err.Error() != "line 2: error 6" {
		t.Error(err)
	}
	if _, err := read("regs"); err != nil {
		t.Error(err)
	}
}
