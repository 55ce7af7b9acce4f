package micro

import (
	"math/rand"
	"slices"
	"strings"
	"testing"

	"whirligig/api"
	"whirligig/opcode"
)

// bools are both.
var bools = []bool{false, true}

// busWords, placeWords and valueWords are the chapter's words, by api's order.
var (
	busWords   = []string{"idle", "read", "write"}
	placeWords = []string{"None", "PC", "HL", "BC", "DE", "Up", "Down", "High", "Port", "Far", "Next", "Push", "Pop"}
	valueWords = []string{"None", "Lo", "Hi", "A", "Reg", "SPLo", "SPHi", "PCLo", "PCHi", "Done", "Top", "Low"}
)

// spelled is the cycles that a text of the chapter's tells.
func spelled(t *testing.T, text string) []api.Micro {
	t.Helper()
	var all []api.Micro
	for _, part := range strings.Split(text, ",") {
		switch part = strings.TrimSpace(part); part {
		case "", "nothing":
		case "idle":
			all = append(all, api.Micro{})
		case "lo":
			all = append(all, spelled(t, "read PC Lo")...)
		case "hi":
			all = append(all, spelled(t, "read PC Hi")...)
		case "call":
			all = append(all, spelled(t, "idle, write Push PCHi, write Push PCLo")...)
		case "back":
			all = append(all, spelled(t, "read Pop Lo, read Pop Hi, idle")...)
		default:
			words := strings.Fields(part)
			if len(words) != 3 {
				t.Fatalf("%q", part)
			}
			m := api.Micro{
				Bus:   slices.Index(busWords, words[0]),
				Place: slices.Index(placeWords, words[1]),
				Value: slices.Index(valueWords, words[2]),
			}
			if m.Bus < 1 || m.Place < 1 || m.Value < 1 {
				t.Fatalf("%q", part)
			}
			all = append(all, m)
		}
	}
	return all
}

// steadyText is P21.1 of the kinds that have no condition, as the chapter has it.
func steadyText(f api.Form) string {
	six := func(is bool, text string) string {
		if is {
			return text
		}
		return "nothing"
	}
	switch f.Kind {
	case api.KStop, api.KAluN:
		return "read PC Lo"
	case api.KLoad:
		return six(f.Y == 6, "read HL Lo") + "," + six(f.X == 6, "write HL Reg")
	case api.KLoadN:
		return "read PC Lo," + six(f.X == 6, "write HL Lo")
	case api.KLoadA:
		return "read " + []string{"BC", "DE", "Up", "Down"}[f.X] + " Lo"
	case api.KStoreA:
		return "write " + []string{"BC", "DE", "Up", "Down"}[f.X] + " A"
	case api.KLoadHigh:
		return "read PC Lo, read High Lo"
	case api.KStoreHigh:
		return "read PC Lo, write High A"
	case api.KLoadPort:
		return "read Port Lo"
	case api.KStorePort:
		return "write Port A"
	case api.KLoadFar:
		return "lo, hi, read Far Lo"
	case api.KStoreFar:
		return "lo, hi, write Far A"
	case api.KLoad16:
		return "lo, hi"
	case api.KStoreSP:
		return "lo, hi, write Far SPLo, write Next SPHi"
	case api.KLoadSP, api.KInc16, api.KDec16, api.KAddHL:
		return "idle"
	case api.KLoadHL:
		return "read PC Lo, idle"
	case api.KAddSP:
		return "read PC Lo, idle, idle"
	case api.KPush:
		return "idle, write Push Top, write Push Low"
	case api.KPop:
		return "read Pop Lo, read Pop Hi"
	case api.KAlu, api.KBit:
		return six(f.Y == 6, "read HL Lo")
	case api.KInc, api.KDec:
		return six(f.X == 6, "read HL Lo, write HL Done")
	case api.KShift, api.KRes, api.KSet:
		return six(f.Y == 6, "read HL Lo, write HL Done")
	case api.KReti:
		return "back"
	case api.KRst:
		return "call"
	}
	return "nothing"
}

// planText is P21.1 of all kinds.
func planText(f api.Form, taken bool) string {
	head, tail := "", ""
	switch f.Kind {
	case api.KJr:
		head, tail = "read PC Lo", "idle"
	case api.KJp:
		head, tail = "lo, hi", "idle"
	case api.KCall:
		head, tail = "lo, hi", "call"
	case api.KRet:
		tail = "back"
		if f.X < 4 {
			head = "idle"
		}
	default:
		return steadyText(f)
	}
	if f.X < 4 && !taken {
		return head
	}
	return head + "," + tail
}

// formOf is the chapter's form.
func formOf(op uint8, cb bool) api.Form {
	if cb {
		return opcode.DecodeCB(op)
	}
	return opcode.Decode(op)
}

// eachPlan goes through all instructions, taken and not.
func eachPlan(visit func(op uint8, cb, taken bool)) {
	for n := range 256 {
		for _, cb := range bools {
			for _, taken := range bools {
				visit(uint8(n), cb, taken)
			}
		}
	}
}

// P21.1: the chapter's examples, and one instruction of each kind, by hand.
func TestPlanByHand(t *testing.T) {
	for _, c := range []struct {
		op        uint8
		cb, taken bool
		want      string
	}{
		{205, false, true, "read PC Lo, read PC Hi, idle, write Push PCHi, write Push PCLo"},
		{192, false, false, "idle"},
		{0x46, true, false, "read HL Lo"},
		{0x00, false, true, ""},              // NOP
		{0x10, false, true, "read PC Lo"},    // STOP
		{0x76, false, true, ""},              // HALT
		{0xF3, false, true, ""},              // DI
		{0xFB, false, true, ""},              // EI
		{0xD3, false, true, ""},              // illegal
		{0xCB, false, true, ""},              // the prefix
		{0x78, false, false, ""},             // LD A,B
		{0x7E, false, false, "read HL Lo"},   // LD A,(HL)
		{0x66, false, false, "read HL Lo"},   // LD H,(HL)
		{0x77, false, false, "write HL Reg"}, // LD (HL),A
		{0x70, false, false, "write HL Reg"}, // LD (HL),B
		{0x3E, false, false, "read PC Lo"},   // LD A,n
		{0x36, false, false, "read PC Lo, write HL Lo"},
		{0x0A, false, false, "read BC Lo"},
		{0x1A, false, false, "read DE Lo"},
		{0x2A, false, false, "read Up Lo"},
		{0x3A, false, false, "read Down Lo"},
		{0x02, false, false, "write BC A"},
		{0x12, false, false, "write DE A"},
		{0x22, false, false, "write Up A"},
		{0x32, false, false, "write Down A"},
		{0xF0, false, false, "read PC Lo, read High Lo"},
		{0xE0, false, false, "read PC Lo, write High A"},
		{0xF2, false, false, "read Port Lo"},
		{0xE2, false, false, "write Port A"},
		{0xFA, false, false, "read PC Lo, read PC Hi, read Far Lo"},
		{0xEA, false, false, "read PC Lo, read PC Hi, write Far A"},
		{0x01, false, false, "read PC Lo, read PC Hi"},
		{0x31, false, false, "read PC Lo, read PC Hi"},
		{0x08, false, false, "read PC Lo, read PC Hi, write Far SPLo, write Next SPHi"},
		{0xF9, false, false, "idle"},
		{0x03, false, false, "idle"},
		{0x3B, false, false, "idle"},
		{0x29, false, false, "idle"},
		{0xF8, false, false, "read PC Lo, idle"},
		{0xE8, false, false, "read PC Lo, idle, idle"},
		{0xC5, false, false, "idle, write Push Top, write Push Low"},
		{0xF5, false, false, "idle, write Push Top, write Push Low"},
		{0xC1, false, false, "read Pop Lo, read Pop Hi"},
		{0xF1, false, false, "read Pop Lo, read Pop Hi"},
		{0x86, false, false, "read HL Lo"}, // ADD A,(HL)
		{0xB0, false, false, ""},           // OR B, whose X is 6
		{0xBE, false, false, "read HL Lo"},
		{0xC6, false, false, "read PC Lo"},
		{0xF6, false, false, "read PC Lo"}, // OR n, whose X is 6
		{0x34, false, false, "read HL Lo, write HL Done"},
		{0x35, false, false, "read HL Lo, write HL Done"},
		{0x3C, false, false, ""},
		{0x3D, false, false, ""},
		{0x07, false, false, ""}, // RLCA
		{0x27, false, false, ""}, // DAA
		{0x2F, false, false, ""},
		{0x37, false, false, ""},
		{0x3F, false, false, ""},
		{0x18, false, false, "read PC Lo, idle"},
		{0x20, false, false, "read PC Lo"},
		{0x38, false, true, "read PC Lo, idle"},
		{0xC3, false, false, "read PC Lo, read PC Hi, idle"},
		{0xC2, false, false, "read PC Lo, read PC Hi"},
		{0xDA, false, true, "read PC Lo, read PC Hi, idle"},
		{0xE9, false, true, ""}, // JP HL
		{0xC4, false, false, "read PC Lo, read PC Hi"},
		{0xDC, false, true, "read PC Lo, read PC Hi, idle, write Push PCHi, write Push PCLo"},
		{0xC9, false, false, "read Pop Lo, read Pop Hi, idle"},
		{0xC9, false, true, "read Pop Lo, read Pop Hi, idle"},
		{0xD8, false, true, "idle, read Pop Lo, read Pop Hi, idle"},
		{0xD8, false, false, "idle"},
		{0xD9, false, false, "read Pop Lo, read Pop Hi, idle"},
		{0xC7, false, false, "idle, write Push PCHi, write Push PCLo"},
		{0xFF, false, false, "idle, write Push PCHi, write Push PCLo"},
		{0x06, true, false, "read HL Lo, write HL Done"},
		{0x3E, true, false, "read HL Lo, write HL Done"},
		{0x30, true, false, ""}, // SWAP B, whose X is 6
		{0x70, true, false, ""}, // BIT 6,B
		{0x7E, true, false, "read HL Lo"},
		{0xB0, true, false, ""}, // RES 6,B
		{0x86, true, false, "read HL Lo, write HL Done"},
		{0xF0, true, false, ""}, // SET 6,B
		{0xFE, true, true, "read HL Lo, write HL Done"},
		{0xFF, true, true, ""},
	} {
		if got, want := Plan(c.op, c.cb, c.taken), spelled(t, c.want); !slices.Equal(got, want) {
			t.Errorf("Plan(%#02x, %v, %v) = %v, not %v", c.op, c.cb, c.taken, got, want)
		}
	}
}

// P21.1: every instruction against the chapter's words.
func TestPlan(t *testing.T) {
	eachPlan(func(op uint8, cb, taken bool) {
		want := spelled(t, planText(formOf(op, cb), taken))
		if got := Plan(op, cb, taken); !slices.Equal(got, want) {
			t.Errorf("Plan(%#02x, %v, %v) = %v, not %v", op, cb, taken, got, want)
		}
	})
}

// P21.1: whether a condition holds is nothing to an instruction that has none.
func TestTakenIsForConditionsAlone(t *testing.T) {
	for n := range 256 {
		op := uint8(n)
		for _, cb := range bools {
			same := slices.Equal(Plan(op, cb, false), Plan(op, cb, true))
			if same == Asks(op, cb) {
				t.Errorf("%#02x, %v: the same, taken or not: %v", op, cb, same)
			}
		}
	}
}

// P21.2: the instructions that have a condition, by their opcodes.
func TestAsks(t *testing.T) {
	asks := []int{
		0x20, 0x28, 0x30, 0x38, // JR
		0xC2, 0xCA, 0xD2, 0xDA, // JP
		0xC4, 0xCC, 0xD4, 0xDC, // CALL
		0xC0, 0xC8, 0xD0, 0xD8, // RET
	}
	for n := range 256 {
		if got, want := Asks(uint8(n), false), slices.Contains(asks, n); got != want {
			t.Errorf("Asks(%#02x, false) = %v", n, got)
		}
		if Asks(uint8(n), true) {
			t.Errorf("Asks(%#02x, true)", n)
		}
	}
}

// P21.3: fetch, prefix and plan are as many cycles as the form says.
func TestCyclesAreTheForms(t *testing.T) {
	eachPlan(func(op uint8, cb, taken bool) {
		f := formOf(op, cb)
		want, got := f.Cycles, 1+len(Plan(op, cb, taken))
		if taken {
			want = f.Taken
		}
		if cb {
			got++
		}
		if got != want {
			t.Errorf("%#02x, %v, %v: %d cycles, not %d", op, cb, taken, got, want)
		}
	})
}

// P21.3: as many reads at PC as there are bytes behind the opcode.
func TestReadsAtPCAreTheBytes(t *testing.T) {
	eachPlan(func(op uint8, cb, taken bool) {
		want, got := formOf(op, cb).Bytes-1, 0
		if cb {
			want--
		}
		for _, m := range Plan(op, cb, taken) {
			if m.Place == api.AtPC {
				got++
				if m.Bus != api.BusRead {
					t.Errorf("%#02x, %v, %v: %v", op, cb, taken, m)
				}
			}
		}
		if got != want {
			t.Errorf("%#02x, %v, %v: %d reads at PC, not %d", op, cb, taken, got, want)
		}
	})
}

// readInto tells whether a value is one that what is read may go to.
func readInto(value int) bool {
	return value == api.ValLo || value == api.ValHi
}

// P21.3: a cycle is idle, or reads to where bytes go, or writes what there is;
// nobody pushes and pops.
func TestOneThingInACycle(t *testing.T) {
	eachPlan(func(op uint8, cb, taken bool) {
		pushes, pops := false, false
		for _, m := range Plan(op, cb, taken) {
			pushes = pushes || m.Place == api.AtPush
			pops = pops || m.Place == api.AtPop
			ok := false
			switch m.Bus {
			case api.BusIdle:
				ok = m == api.Micro{}
			case api.BusRead:
				ok = m.Place > api.AtNone && m.Place <= api.AtPop && m.Place != api.AtPush && readInto(m.Value)
			case api.BusWrite:
				ok = m.Place > api.AtPC && m.Place < api.AtPop && m.Value > api.ValNone && m.Value <= api.ValLow
			}
			if !ok {
				t.Errorf("%#02x, %v, %v: %v", op, cb, taken, m)
			}
		}
		if pushes && pops {
			t.Errorf("%#02x, %v, %v pushes and pops", op, cb, taken)
		}
	})
}

// R2, R3: a plan is the caller's own, up to its capacity; where there is
// nothing it is empty.
func TestPlansAreTheCallersOwn(t *testing.T) {
	eachPlan(func(op uint8, cb, taken bool) {
		first := Plan(op, cb, taken)
		kept := slices.Clone(first)
		for i := range first {
			first[i] = api.Micro{Bus: 9, Place: 9, Value: 9}
		}
		_ = append(first, api.Micro{Bus: 8})
		if again := Plan(op, cb, taken); !slices.Equal(again, kept) {
			t.Errorf("Plan(%#02x, %v, %v) is %v now, not %v", op, cb, taken, again, kept)
		}
	})
}

// R4: nothing is kept from call to call, in whatever order they come.
func TestNothingIsKept(t *testing.T) {
	chance := rand.New(rand.NewSource(211))
	for range 20000 {
		op, cb, taken := uint8(chance.Intn(256)), chance.Intn(2) == 1, chance.Intn(2) == 1
		want := spelled(t, planText(formOf(op, cb), taken))
		if got := Plan(op, cb, taken); !slices.Equal(got, want) {
			t.Fatalf("Plan(%#02x, %v, %v) = %v, not %v", op, cb, taken, got, want)
		}
	}
}
