package solo

import (
	"bytes"
	"math"
	"math/rand"
	"slices"
	"testing"

	"whirligig/api"
	"whirligig/cpu"
)

// program is a memory with bytes from a place on.
func program(at int, code ...byte) []byte {
	return append(make([]byte, at), code...)
}

// mustRun runs, and asks for what is so of every run: no error, a whole memory,
// and as many acts as cycles.
func mustRun(t *testing.T, c api.Cpu, mem []byte, came []uint8, n int) (api.Cpu, []byte, []api.Act) {
	t.Helper()
	c, after, acts, e := Run(c, mem, came, n)
	if e != api.OK || len(after) != 65536 || len(acts) != n {
		t.Fatalf("Run of %d: %d bytes, %d acts, error %d", n, len(after), len(acts), e)
	}
	return c, after, acts
}

// wantLines holds acts against lines.
func wantLines(t *testing.T, acts []api.Act, want ...string) {
	t.Helper()
	if got := Trace(acts); !slices.Equal(got, want) {
		t.Errorf("\n got %q\nwant %q", got, want)
	}
}

// chanceMem is a memory of any bytes, and often of any length.
func chanceMem(r *rand.Rand) []byte {
	size := 65536
	switch r.Intn(4) {
	case 0:
		size = r.Intn(65536)
	case 1:
		size += r.Intn(100)
	}
	mem := make([]byte, size)
	r.Read(mem)
	return mem
}

// chanceCame is what is pending, of any length; mostly nothing.
func chanceCame(r *rand.Rand, n int) []uint8 {
	came := make([]uint8, r.Intn(n+10))
	for i := range came {
		if r.Intn(6) == 0 {
			came[i] = uint8(r.Intn(256))
		}
	}
	return came
}

// chanceCpu is a processor with anything in its fields, seldom one that stands.
func chanceCpu(r *rand.Rand) api.Cpu {
	b := func() uint8 { return uint8(r.Intn(256)) }
	on := func() bool { return r.Intn(2) == 0 }
	c := api.Cpu{
		R:   api.Regs{A: b(), F: b(), B: b(), C: b(), D: b(), E: b(), H: b(), L: b(), SP: uint16(r.Intn(65536)), PC: uint16(r.Intn(65536))},
		Ime: on(), Arm: on(), Bug: on(), Op: b(), Cb: on(), Step: uint8(r.Intn(8)), Lo: b(), Hi: b(),
	}
	if r.Intn(4) == 0 {
		c.Mode = uint8(r.Intn(7))
	}
	return c
}

// slow is P23.1 word by word, over a map of what was written.
func slow(c api.Cpu, mem []byte, came []uint8, n int) (api.Cpu, []byte, []api.Act) {
	written := map[int]byte{}
	at := func(p int) byte {
		if v, ok := written[p]; ok {
			return v
		}
		if p < len(mem) {
			return mem[p]
		}
		return 0
	}
	var acts []api.Act
	for i := 0; i < n; i++ {
		var pending, data uint8
		if i < len(came) {
			pending = came[i]
		}
		d, act, _ := cpu.Want(c, pending)
		if act.Kind == 1 || act.Kind == 2 {
			data = at(int(act.Addr))
			act.Data = data
		}
		if act.Kind == 3 {
			written[int(act.Addr)] = act.Data
		}
		acts = append(acts, act)
		c = cpu.Done(d, data, pending)
	}
	after := make([]byte, 65536)
	for p := range after {
		after[p] = at(p)
	}
	return c, after, acts
}

// The chapter's example, and what the processor and the memory are behind it
// (P23.1, P23.2).
func TestExample(t *testing.T) {
	c, after, acts := mustRun(t, cpu.Boot(), program(256, 62, 7, 119), nil, 4)
	wantLines(t, acts, "F 0100=3E", "R 0101=07", "F 0102=77", "W 014D=07")
	want := cpu.Boot()
	want.R.A, want.R.PC, want.Op, want.Lo = 7, 259, 119, 7
	if c != want {
		t.Errorf("%+v", c)
	}
	if !bytes.Equal(after[:260], program(256, 62, 7, 119, 0)) || after[333] != 7 || bytes.Count(after, []byte{0}) != 65536-4 {
		t.Error("the memory")
	}
}

// How many cycles there may be; with an error nothing is told (P23.1, R1).
func TestHowMany(t *testing.T) {
	for _, n := range []int{-1, -20000, 20001, 65536, math.MinInt, math.MaxInt, math.MinInt32, math.MaxInt32} {
		c, mem, acts, e := Run(cpu.Boot(), []byte{1}, []uint8{1}, n)
		if c != (api.Cpu{}) || len(mem) != 0 || len(acts) != 0 || e != api.ErrArg {
			t.Errorf("%d: %+v, %d bytes, %d acts, error %d", n, c, len(mem), len(acts), e)
		}
	}
	for _, n := range []int{0, 1, 2, 19999, 20000} {
		c, _, acts := mustRun(t, cpu.Boot(), nil, nil, n)
		want := cpu.Boot()
		want.R.PC += uint16(n)
		if c != want {
			t.Errorf("%d NOPs: %+v", n, c)
		}
		for i, a := range acts {
			if a != (api.Act{Kind: api.ActFetch, Addr: uint16(256 + i)}) {
				t.Fatalf("cycle %d of %d: %+v", i, n, a)
			}
		}
	}
	r := rand.New(rand.NewSource(230))
	for range 200 {
		c := chanceCpu(r)
		mem := chanceMem(r)
		if d, after, _ := mustRun(t, c, mem, []uint8{255}, 0); d != c || !bytes.Equal(after[:min(len(mem), 65536)], mem[:min(len(mem), 65536)]) {
			t.Fatalf("none of %+v: %+v", c, d)
		}
	}
}

// The memory's bytes are those that are handed in, 0 behind them; what is more
// plays no part, and nothing is read round its end (P23.1).
func TestMemory(t *testing.T) {
	for _, size := range []int{0, 1, 255, 65535, 65536, 65537, 70000, 140000} {
		mem := bytes.Repeat([]byte{0x3c}, size)
		_, after, _ := mustRun(t, api.Cpu{}, mem, nil, 0)
		for p, v := range after {
			want := byte(0)
			if p < size {
				want = 0x3c
			}
			if v != want {
				t.Fatalf("%d bytes: %d at %d", size, v, p)
			}
		}
		for _, pc := range []int{0, 1, 254, 255, 65534, 65535} {
			_, _, acts := mustRun(t, api.Cpu{R: api.Regs{PC: uint16(pc)}}, mem, nil, 3)
			for i, a := range acts {
				p := (pc + i) % 65536
				want := api.Act{Kind: api.ActFetch, Addr: uint16(p)}
				if p < size {
					want.Data = 0x3c
				}
				if a != want {
					t.Errorf("%d bytes, at %d: %+v", size, p, a)
				}
			}
		}
	}
}

// Every place can be read and written, and no other one is changed (P23.1,
// P23.3).
func TestEveryPlace(t *testing.T) {
	for p := 0; p < 65536; p += 13 {
		at := (p + 0x8000) % 65536
		mem := program(at, 0x34) // INC (HL)
		c := api.Cpu{R: api.Regs{H: uint8(p >> 8), L: uint8(p), PC: uint16(at)}}
		_, after, acts := mustRun(t, c, mem, nil, 3)
		want := []api.Act{
			{Kind: api.ActFetch, Addr: uint16(at), Data: 0x34},
			{Kind: api.ActRead, Addr: uint16(p)},
			{Kind: api.ActWrite, Addr: uint16(p), Data: 1},
		}
		all := make([]byte, 65536)
		copy(all, mem)
		all[p] = 1
		if !slices.Equal(acts, want) || !bytes.Equal(after, all) {
			t.Fatalf("at %d: %v", p, acts)
		}
	}
}

// A program that changes itself does what it has become (P23.3).
func TestWrittenIsFetched(t *testing.T) {
	// LD HL,$0005; LD (HL),$3C, and there NOP becomes INC A.
	c, after, acts := mustRun(t, api.Cpu{}, []byte{0x21, 5, 0, 0x36, 0x3c, 0x00}, nil, 7)
	wantLines(t, acts, "F 0000=21", "R 0001=05", "R 0002=00", "F 0003=36", "R 0004=3C", "W 0005=3C", "F 0005=3C")
	if c.R.A != 1 || after[5] != 0x3c {
		t.Errorf("%+v", c)
	}
}

// A loop of a stack and a counter, whole (P23.1, P23.3).
func TestLoopByHand(t *testing.T) {
	// LD B,3; PUSH BC; DEC B; JR NZ,-4; HALT
	c, after, acts := mustRun(t, api.Cpu{}, []byte{0x06, 3, 0xc5, 0x05, 0x20, 0xfc, 0x76}, nil, 30)
	wantLines(t, acts[:10], "F 0000=06", "R 0001=03", "F 0002=C5", "-", "W FFFF=03", "W FFFE=00", "F 0003=05", "F 0004=20", "R 0005=FC", "-")
	wantLines(t, acts[24:], "R 0005=FC", "F 0006=76", "-", "-", "-", "-")
	if c.Mode != api.ModeHalt || c.R.SP != 0xfffa || c.R.PC != 7 || c.R.B != 0 {
		t.Errorf("%+v", c)
	}
	if !bytes.Equal(after[0xfffa:], []byte{0, 1, 0, 2, 0, 3}) {
		t.Errorf("the stack: %v", after[0xfffa:])
	}
}

// Where nothing is read the processor is done with 0, whatever the memory has,
// and the act is told as it was wanted (P23.1).
func TestNoneIsNought(t *testing.T) {
	r := rand.New(rand.NewSource(231))
	for range 20000 {
		c := chanceCpu(r)
		pending := uint8(r.Intn(256))
		d, act, _ := cpu.Want(c, pending)
		if act.Kind == api.ActFetch || act.Kind == api.ActRead {
			continue
		}
		got, _, acts := mustRun(t, c, bytes.Repeat([]byte{0x3c}, 65536), []uint8{pending}, 1)
		if got != cpu.Done(d, 0, pending) || acts[0] != act {
			t.Fatalf("%+v: %+v %+v", c, got, acts[0])
		}
	}
}

// A call by an interrupt; the first one that is pending in its fourth cycle is
// taken, and is pending still if the list says so (P23.1).
func TestPendingByHand(t *testing.T) {
	c := cpu.Boot()
	c.Ime = true
	for _, row := range []struct {
		came   []uint8
		vector string
		pc     uint16
	}{
		{[]uint8{0, 4, 4, 4, 4, 0, 0}, "F 0050=00", 0x51},
		{[]uint8{0, 4, 0, 0, 1, 0, 0}, "F 0040=00", 0x41},
		{[]uint8{0, 16, 31, 31, 16, 1, 1}, "F 0060=00", 0x61},
		{[]uint8{0, 4, 4, 4}, "F 0000=00", 1},
		{[]uint8{0, 31, 31, 31, 31 << 3, 31, 31, 31, 31}, "F 0058=00", 0x59},
	} {
		d, after, acts := mustRun(t, c, nil, row.came, 7)
		wantLines(t, acts, "F 0100=00", "-", "-", "W FFFD=01", "W FFFC=01", "-", row.vector)
		if d.R.PC != row.pc || d.R.SP != 0xfffc || d.Ime || after[0xfffd] != 1 || after[0xfffc] != 1 {
			t.Errorf("%v: %+v", row.came, d)
		}
	}
	// RETI at once: what was taken is pending all the same, and called again.
	mem := program(0x40, 0xd9)
	d, _, acts := mustRun(t, c, mem, bytes.Repeat([]byte{1}, 14), 14)
	wantLines(t, acts, "-", "-", "W FFFD=01", "W FFFC=00", "-", "F 0040=D9", "R FFFC=00", "R FFFD=01", "-", "-", "-", "W FFFD=01", "W FFFC=00", "-")
	if d.R.PC != 0x40 || d.R.SP != 0xfffc {
		t.Errorf("%+v", d)
	}
}

// What is pending in a cycle is so for its beginning and its end: a halt with
// something pending stumbles, without it waits (P23.1).
func TestPendingAtTheEnd(t *testing.T) {
	mem := []byte{0x76, 0x3c, 0x04}
	c, _, acts := mustRun(t, api.Cpu{}, mem, []uint8{1, 0, 0, 0}, 4)
	wantLines(t, acts, "F 0000=76", "F 0001=3C", "F 0001=3C", "F 0002=04")
	if c.R.A != 2 || c.R.B != 1 {
		t.Errorf("stumbled: %+v", c)
	}
	c, _, acts = mustRun(t, api.Cpu{}, mem, []uint8{0, 0, 0xe0, 2}, 4)
	wantLines(t, acts, "F 0000=76", "-", "-", "F 0001=3C")
	if c.R.A != 1 || c.Mode != api.ModeRun {
		t.Errorf("woken: %+v", c)
	}
	// The list's bytes count from its beginning on, one a cycle.
	for late := range 12 {
		_, _, acts := mustRun(t, api.Cpu{}, mem, append(make([]uint8, late+1), 8), 14)
		want := slices.Repeat([]string{"-"}, late)
		wantLines(t, acts[:late+2], slices.Concat([]string{"F 0000=76"}, want, []string{"F 0001=3C"})...)
	}
}

// Processors, memories and lists of any kind, against the promise word by word,
// through long runs (P23.1, R5).
func TestChance(t *testing.T) {
	r := rand.New(rand.NewSource(232))
	for i := range 400 {
		n := r.Intn(400)
		if i%40 == 0 {
			n = 20000
		}
		c, mem, came := chanceCpu(r), chanceMem(r), chanceCame(r, n)
		wantCpu, wantMem, wantActs := slow(c, mem, came, n)
		got, after, acts := mustRun(t, c, mem, came, n)
		if got != wantCpu || !bytes.Equal(after, wantMem) || !slices.Equal(acts, wantActs) {
			t.Fatalf("%d cycles of %+v:\n got %+v\nwant %+v", n, c, got, wantCpu)
		}
	}
}

// m cycles and n behind them are m and n cycles (P23.3).
func TestParts(t *testing.T) {
	r := rand.New(rand.NewSource(233))
	for range 300 {
		m, n := r.Intn(60), r.Intn(60)
		c, mem, came := chanceCpu(r), chanceMem(r), chanceCame(r, m+n)
		all, allMem, allActs := mustRun(t, c, mem, came, m+n)
		first, firstMem, firstActs := mustRun(t, c, mem, came, m)
		rest, restMem, restActs := mustRun(t, first, firstMem, came[min(m, len(came)):], n)
		if rest != all || !bytes.Equal(restMem, allMem) || !slices.Equal(slices.Concat(firstActs, restActs), allActs) {
			t.Fatalf("%d and %d of %+v", m, n, c)
		}
	}
}

// What is read is what was written there last, or the memory's byte; where
// nothing is written it stays (P23.3): by the acts alone.
func TestLastWritten(t *testing.T) {
	r := rand.New(rand.NewSource(234))
	writes := 0
	for range 300 {
		c, mem := chanceCpu(r), chanceMem(r)
		var now [65536]byte
		copy(now[:], mem)
		_, after, acts := mustRun(t, c, mem, chanceCame(r, 500), 500)
		for i, a := range acts {
			switch a.Kind {
			case api.ActIdle:
				if a != (api.Act{}) {
					t.Fatalf("cycle %d: %+v", i, a)
				}
			case api.ActFetch, api.ActRead:
				if a.Data != now[a.Addr] {
					t.Fatalf("cycle %d: %+v, there is %d", i, a, now[a.Addr])
				}
			case api.ActWrite:
				now[a.Addr] = a.Data
				writes++
			default:
				t.Fatalf("cycle %d: %+v", i, a)
			}
		}
		if !bytes.Equal(after, now[:]) {
			t.Fatal("the memory")
		}
	}
	if writes < 1000 {
		t.Error("too few were written:", writes)
	}
}

// checkWhole holds a run against instructions by their meaning alone: it ends
// where the last of them does.
func checkWhole(t *testing.T, c api.Cpu, mem []byte, instructions int) {
	t.Helper()
	w := newWhole(c, mem)
	for i := 0; i < instructions && w.mode == api.ModeRun; i++ {
		w.instruction()
	}
	got, after, acts := mustRun(t, c, mem, nil, len(w.acts))
	for i, a := range acts {
		if a != w.acts[i] {
			t.Fatalf("cycle %d of %+v: %s, not %s", i, c, Line(a), Line(w.acts[i]))
		}
	}
	if got.R != w.regs() || got.Ime != w.ime || got.Arm != w.arm || got.Mode != w.mode || got.Step != 0 || cpu.Busy(got) {
		t.Fatalf("behind %v of %+v:\n got %+v\nwant %+v", Trace(acts), c, got, w.regs())
	}
	if !bytes.Equal(after, w.mem[:]) {
		t.Fatalf("the memory behind %v of %+v", Trace(acts), c)
	}
}

// chanceStart is a processor at a beginning, with registers as there may be.
func chanceStart(r *rand.Rand) api.Cpu {
	c := chanceCpu(r)
	c.R.F &= 240
	return api.Cpu{R: c.R, Ime: c.Ime, Arm: c.Arm}
}

// Each instruction, with and without the prefix, by its meaning (P23.4).
func TestEachInstruction(t *testing.T) {
	r := rand.New(rand.NewSource(235))
	for op := range 512 {
		for range 25 {
			c := chanceStart(r)
			mem := make([]byte, 65536)
			r.Read(mem)
			mem[c.R.PC] = byte(op)
			if op >= 256 {
				mem[c.R.PC], mem[c.R.PC+1] = 203, byte(op)
			}
			checkWhole(t, c, mem, 1)
		}
	}
}

// Programs of any bytes, and such as go on for long, by their meaning (P23.4).
func TestPrograms(t *testing.T) {
	r := rand.New(rand.NewSource(236))
	for range 300 {
		mem := chanceMem(r)
		for p, v := range mem {
			// What ends a program at once is seldom.
			switch v {
			case 0x10, 0x76, 0xd3, 0xdb, 0xdd, 0xe3, 0xe4, 0xeb, 0xec, 0xed, 0xf4, 0xfc, 0xfd:
				if r.Intn(20) != 0 {
					mem[p] = byte(r.Intn(192))
				}
			}
		}
		checkWhole(t, chanceStart(r), mem, r.Intn(1500))
	}
	checkWhole(t, cpu.Boot(), nil, 20000)
}

// Lines of each kind, of kinds that there aren't, and of fields that a kind
// doesn't tell (P23.2, R5).
func TestLine(t *testing.T) {
	for _, row := range []struct {
		a    api.Act
		want string
	}{
		{api.Act{}, "-"},
		{api.Act{Kind: api.ActIdle, Addr: 0x1234, Data: 0x56}, "-"},
		{api.Act{Kind: api.ActFetch}, "F 0000=00"},
		{api.Act{Kind: api.ActFetch, Addr: 0x100, Data: 0x3e}, "F 0100=3E"},
		{api.Act{Kind: api.ActRead, Addr: 0xabcd, Data: 0xef}, "R ABCD=EF"},
		{api.Act{Kind: api.ActWrite, Addr: 0xffff, Data: 0xff}, "W FFFF=FF"},
		{api.Act{Kind: api.ActWrite, Addr: 9, Data: 10}, "W 0009=0A"},
		{api.Act{Kind: 4, Addr: 1, Data: 2}, "?"},
		{api.Act{Kind: -1}, "?"},
		{api.Act{Kind: math.MaxInt}, "?"},
		{api.Act{Kind: math.MinInt}, "?"},
		{api.Act{Kind: 1 << 32}, "?"},
		{api.Act{Kind: 1<<32 + 1}, "?"},
		{api.Act{Kind: 256}, "?"},
	} {
		if got := Line(row.a); got != row.want {
			t.Errorf("Line(%+v) = %q", row.a, got)
		}
	}
}

// Every place and byte in a line (P23.2).
func TestEveryLine(t *testing.T) {
	const digits = "0123456789ABCDEF"
	for at := range 65536 {
		v := at*7%256 ^ at>>8
		want := []byte{'R', ' ', digits[at>>12], digits[at>>8%16], digits[at>>4%16], digits[at%16], '=', digits[v>>4], digits[v%16]}
		if got := Line(api.Act{Kind: api.ActRead, Addr: uint16(at), Data: uint8(v)}); got != string(want) {
			t.Fatalf("%q, not %q", got, want)
		}
	}
}

// A trace is the line of each, in their order; none of none (P23.2, R2).
func TestTrace(t *testing.T) {
	if len(Trace(nil)) != 0 || len(Trace([]api.Act{})) != 0 {
		t.Error("of none")
	}
	r := rand.New(rand.NewSource(237))
	for n := range 200 {
		acts := make([]api.Act, n)
		want := make([]string, n)
		for i := range acts {
			acts[i] = api.Act{Kind: r.Intn(6) - 1, Addr: uint16(r.Intn(65536)), Data: uint8(r.Intn(256))}
			want[i] = Line(acts[i])
		}
		kept := slices.Clone(acts)
		if got := Trace(acts); !slices.Equal(got, want) || !slices.Equal(acts, kept) {
			t.Fatalf("%v: %q", acts, got)
		}
	}
}

// What is handed in stays, what is told is the caller's own, and nothing is
// kept from run to run (R3, R4).
func TestNothingShared(t *testing.T) {
	r := rand.New(rand.NewSource(238))
	for range 50 {
		c, mem, came := chanceCpu(r), make([]byte, 65536), chanceCame(r, 200)
		r.Read(mem)
		keptMem, keptCame := slices.Clone(mem), slices.Clone(came)
		got, after, acts := mustRun(t, c, mem, came, 200)
		if !bytes.Equal(mem, keptMem) || !bytes.Equal(came, keptCame) {
			t.Fatal("what was handed in has changed")
		}
		afterWas, actsWere := slices.Clone(after), slices.Clone(acts)
		clear(mem)
		clear(came)
		mustRun(t, chanceCpu(r), mem, came, 100)
		if !bytes.Equal(after, afterWas) || !slices.Equal(acts, actsWere) {
			t.Fatal("what was told has changed")
		}
		clear(after)
		clear(acts)
		again, afterAgain, actsAgain := mustRun(t, c, keptMem, keptCame, 200)
		if again != got || !bytes.Equal(afterAgain, afterWas) || !slices.Equal(actsAgain, actsWere) {
			t.Fatal("the same run is another one")
		}
	}
}
