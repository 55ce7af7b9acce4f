package listing

import (
	"fmt"
	"math/rand"
	"regexp"
	"slices"
	"strings"
	"testing"

	"whirligig/api"
)

// plainLines are the lines of the opcodes 0 to 255, written out one by one;
// <b> and <w> are the byte and the word that are read behind them.
const plainLines = `
NOP; LD BC,<w>; LD (BC),A; INC BC; INC B; DEC B; LD B,<b>; RLCA
LD (<w>),SP; ADD HL,BC; LD A,(BC); DEC BC; INC C; DEC C; LD C,<b>; RRCA
STOP <b>; LD DE,<w>; LD (DE),A; INC DE; INC D; DEC D; LD D,<b>; RLA
JR <b>; ADD HL,DE; LD A,(DE); DEC DE; INC E; DEC E; LD E,<b>; RRA
JR NZ,<b>; LD HL,<w>; LD (HL+),A; INC HL; INC H; DEC H; LD H,<b>; DAA
JR Z,<b>; ADD HL,HL; LD A,(HL+); DEC HL; INC L; DEC L; LD L,<b>; CPL
JR NC,<b>; LD SP,<w>; LD (HL-),A; INC SP; INC (HL); DEC (HL); LD (HL),<b>; SCF
JR C,<b>; ADD HL,SP; LD A,(HL-); DEC SP; INC A; DEC A; LD A,<b>; CCF
LD B,B; LD B,C; LD B,D; LD B,E; LD B,H; LD B,L; LD B,(HL); LD B,A
LD C,B; LD C,C; LD C,D; LD C,E; LD C,H; LD C,L; LD C,(HL); LD C,A
LD D,B; LD D,C; LD D,D; LD D,E; LD D,H; LD D,L; LD D,(HL); LD D,A
LD E,B; LD E,C; LD E,D; LD E,E; LD E,H; LD E,L; LD E,(HL); LD E,A
LD H,B; LD H,C; LD H,D; LD H,E; LD H,H; LD H,L; LD H,(HL); LD H,A
LD L,B; LD L,C; LD L,D; LD L,E; LD L,H; LD L,L; LD L,(HL); LD L,A
LD (HL),B; LD (HL),C; LD (HL),D; LD (HL),E; LD (HL),H; LD (HL),L; HALT; LD (HL),A
LD A,B; LD A,C; LD A,D; LD A,E; LD A,H; LD A,L; LD A,(HL); LD A,A
ADD B; ADD C; ADD D; ADD E; ADD H; ADD L; ADD (HL); ADD A
ADC B; ADC C; ADC D; ADC E; ADC H; ADC L; ADC (HL); ADC A
SUB B; SUB C; SUB D; SUB E; SUB H; SUB L; SUB (HL); SUB A
SBC B; SBC C; SBC D; SBC E; SBC H; SBC L; SBC (HL); SBC A
AND B; AND C; AND D; AND E; AND H; AND L; AND (HL); AND A
XOR B; XOR C; XOR D; XOR E; XOR H; XOR L; XOR (HL); XOR A
OR B; OR C; OR D; OR E; OR H; OR L; OR (HL); OR A
CP B; CP C; CP D; CP E; CP H; CP L; CP (HL); CP A
RET NZ; POP BC; JP NZ,<w>; JP <w>; CALL NZ,<w>; PUSH BC; ADD <b>; RST $00
RET Z; RET; JP Z,<w>; DB $CB; CALL Z,<w>; CALL <w>; ADC <b>; RST $08
RET NC; POP DE; JP NC,<w>; DB $D3; CALL NC,<w>; PUSH DE; SUB <b>; RST $10
RET C; RETI; JP C,<w>; DB $DB; CALL C,<w>; DB $DD; SBC <b>; RST $18
LDH (<b>),A; POP HL; LDH (C),A; DB $E3; DB $E4; PUSH HL; AND <b>; RST $20
ADD SP,<b>; JP HL; LD (<w>),A; DB $EB; DB $EC; DB $ED; XOR <b>; RST $28
LDH A,(<b>); POP AF; LDH A,(C); DI; DB $F4; PUSH AF; OR <b>; RST $30
LD HL,SP+<b>; LD SP,HL; LD A,(<w>); EI; DB $FC; DB $FD; CP <b>; RST $38
`

// prefixedLines are those behind the prefix, by eights; <r> is the register.
const prefixedLines = `
RLC <r>; RRC <r>; RL <r>; RR <r>; SLA <r>; SRA <r>; SWAP <r>; SRL <r>
BIT 0,<r>; BIT 1,<r>; BIT 2,<r>; BIT 3,<r>; BIT 4,<r>; BIT 5,<r>; BIT 6,<r>; BIT 7,<r>
RES 0,<r>; RES 1,<r>; RES 2,<r>; RES 3,<r>; RES 4,<r>; RES 5,<r>; RES 6,<r>; RES 7,<r>
SET 0,<r>; SET 1,<r>; SET 2,<r>; SET 3,<r>; SET 4,<r>; SET 5,<r>; SET 6,<r>; SET 7,<r>
`

// split takes a table apart into its lines.
func split(table string) []string {
	return strings.Split(strings.ReplaceAll(strings.Trim(table, "\n"), "\n", "; "), "; ")
}

// sample is an instruction as the tables have it: its opcodes, its line with
// <b> or <w>, and how many bytes it has in all.
type sample struct {
	codes []byte
	text  string
	bytes int
}

// samples are all 512, those of the prefix alone and of the illegal ones too.
func samples(t *testing.T) []sample {
	t.Helper()
	plain, prefixed := split(plainLines), split(prefixedLines)
	if len(plain) != 256 || len(prefixed) != 32 {
		t.Fatalf("the tables have %d and %d lines", len(plain), len(prefixed))
	}
	var all []sample
	for op, text := range plain {
		bytes := 1 + strings.Count(text, "<b>") + 2*strings.Count(text, "<w>")
		all = append(all, sample{[]byte{byte(op)}, text, bytes})
	}
	for op := range 256 {
		register := strings.Fields("B C D E H L (HL) A")[op%8]
		all = append(all, sample{[]byte{0xCB, byte(op)}, strings.ReplaceAll(prefixed[op/8], "<r>", register), 2})
	}
	return all
}

// with is the sample's line with these bytes behind its opcodes.
func (s sample) with(lo, hi byte) string {
	text := strings.ReplaceAll(s.text, "<b>", fmt.Sprintf("$%02X", lo))
	return strings.ReplaceAll(text, "<w>", fmt.Sprintf("$%02X%02X", hi, lo))
}

// code is the sample's bytes likewise.
func (s sample) code(lo, hi byte) []byte {
	return append(slices.Clone(s.codes), lo, hi)[:s.bytes]
}

// edges are bytes of all digits, and those at which signs and sizes turn.
var edges = []byte{0x00, 0x01, 0x09, 0x0A, 0x10, 0x34, 0x7F, 0x80, 0x9A, 0xA9, 0xBC, 0xCB, 0xDE, 0xF0, 0xFE, 0xFF}

// P6.1
func TestText(t *testing.T) {
	for _, s := range samples(t) {
		op, cb := s.codes[len(s.codes)-1], len(s.codes) == 2
		for _, lo := range edges {
			for _, hi := range edges {
				if got, want := Text(op, cb, lo, hi), s.with(lo, hi); got != want {
					t.Fatalf("Text(%d, %t, %d, %d): %q, not %q", op, cb, lo, hi, got, want)
				}
			}
		}
	}
}

// P6.1: every byte and every word is told.
func TestTextOfAllNumbers(t *testing.T) {
	for w := range 65536 {
		lo, hi := byte(w%256), byte(w/256)
		if got, want := Text(0xC3, false, lo, hi), fmt.Sprintf("JP $%04X", w); got != want {
			t.Fatalf("%q, not %q", got, want)
		}
		if got, want := Text(0x18, false, lo, hi), fmt.Sprintf("JR $%02X", lo); got != want {
			t.Fatalf("%q, not %q", got, want)
		}
	}
}

// wantOne fails if the line or the bytes of One are others.
func wantOne(t *testing.T, b []byte, want string, bytes int) {
	t.Helper()
	if got, n := One(b); got != want || n != bytes {
		t.Errorf("One(% X): %q, %d, not %q, %d", b, got, n, want, bytes)
	}
}

// P6.2: whole instructions, with nothing and with something behind them.
func TestOne(t *testing.T) {
	for _, s := range samples(t) {
		for _, lo := range edges {
			for _, hi := range edges {
				code, want := s.code(lo, hi), s.with(lo, hi)
				wantOne(t, code, want, s.bytes)
				// The prefix counts with what stands behind it.
				if len(s.codes) == 2 || s.codes[0] != 0xCB {
					wantOne(t, append(slices.Clone(code), 0x00), want, s.bytes)
					wantOne(t, append(slices.Clone(code), 0xCB, 0xFF, 0x3E, hi), want, s.bytes)
				}
			}
		}
	}
}

// P6.2: instructions whose end is missing, and no bytes.
func TestOneOfTooFew(t *testing.T) {
	for _, s := range samples(t) {
		code := s.code(0x34, 0x12)
		for n := 1; n < len(code); n++ {
			wantOne(t, code[:n], fmt.Sprintf("DB $%02X", code[0]), 1)
		}
	}
	wantOne(t, nil, "", 0)
	wantOne(t, []byte{}, "", 0)
}

// P6.2: what stands behind the end of the bytes, in their memory, isn't theirs.
func TestOneSeesNoFurther(t *testing.T) {
	memory := []byte{0xC3, 0x34, 0x12, 0xCB, 0x7E}
	wantOne(t, memory[:2], "DB $C3", 1)
	wantOne(t, memory[:1], "DB $C3", 1)
	wantOne(t, memory[3:4], "DB $CB", 1)
}

// P6.2
func TestLines(t *testing.T) {
	for _, c := range []struct{ b, lines string }{
		{"", ""},
		{"\x00", "NOP"},
		{"\x00\x00\x00", "NOP; NOP; NOP"},
		{"\x3E\x12\xCB\x7E\xC3\x34\x12", "LD A,$12; BIT 7,(HL); JP $1234"},
		{"\xCB\xCB\xCB", "SET 1,E; DB $CB"},
		{"\xC3\x3E", "DB $C3; DB $3E"},
		{"\xC3\x00", "DB $C3; NOP"},
		{"\x01\xCB\x7E\xD3\x10", "LD BC,$7ECB; DB $D3; DB $10"},
		{"\xCD\xCD\xCD\xCD\xCD", "CALL $CDCD; DB $CD; DB $CD"},
	} {
		if got := strings.Join(Lines([]byte(c.b)), "; "); got != c.lines {
			t.Errorf("Lines(% X): %s, not %s", c.b, got, c.lines)
		}
	}
	if l := Lines(nil); len(l) != 0 {
		t.Errorf("Lines of no bytes: %q", l)
	}
}

// wantBytes fails if a line has other bytes.
func wantBytes(t *testing.T, s string, want []byte) {
	t.Helper()
	if got, e := Assemble(s); e != api.OK || !slices.Equal(got, want) {
		t.Errorf("Assemble(%q): % X, %d, not % X", s, got, e, want)
	}
}

// wantNoBytes fails if a line has any.
func wantNoBytes(t *testing.T, s string) {
	t.Helper()
	if got, e := Assemble(s); e != api.ErrText || len(got) != 0 {
		t.Errorf("Assemble(%q): % X, %d, not ErrText", s, got, e)
	}
}

// P6.3: the line of each instruction.
func TestAssemble(t *testing.T) {
	for _, s := range samples(t) {
		for _, at := range []struct{ lo, hi byte }{{0x00, 0x00}, {0x34, 0x12}, {0xCD, 0xAB}, {0xFF, 0xFF}, {0xEF, 0x00}} {
			wantBytes(t, s.with(at.lo, at.hi), s.code(at.lo, at.hi))
		}
	}
}

// P6.3: of DB each byte, also one that would be an instruction.
func TestAssembleOfDB(t *testing.T) {
	for v := range 256 {
		wantBytes(t, fmt.Sprintf("DB $%02X", v), []byte{byte(v)})
	}
}

// P6.3: every byte and every word, by All, which is quicker than one by one.
func TestAllNumbers(t *testing.T) {
	var lines []string
	var want []byte
	for w := range 65536 {
		lo, hi := byte(w%256), byte(w/256)
		lines = append(lines, fmt.Sprintf("LD ($%04X),SP", w), fmt.Sprintf("LDH ($%02X),A", lo))
		want = append(want, 0x08, lo, hi, 0xE0, lo)
	}
	if got, e := All(lines); e != api.OK || !slices.Equal(got, want) {
		t.Errorf("All: %d bytes of %d, %d", len(got), len(want), e)
	}
}

// P6.3: texts that are no lines.
func TestAssembleOfNone(t *testing.T) {
	for _, s := range []string{
		"", " ", "$", "$12", ",", "b", "w", "\x00", "\xFF", "é", "NOP\x00", "\uFF2E\uFF2F\uFF30",
		"nop", "Nop", "NOP ", " NOP", "NOP\n", "\tNOP", "NOP NOP", "NOP;", "NOP $00", "NOP$", "NOP 0",
		"LD A, $12", "LD  A,$12", "LD A ,$12", "LD A,$12 ", " LD A,$12", "LDA,$12", "LD A", "LD A,", "LD A,$", "LD A,$1", "LD A,$123", "LD A,$1234", "LD A,$0012",
		"LD A,12", "LD A,$1a", "LD A,$Fa", "LD A,$1G", "LD A,$G1", "LD A,$-1", "LD A,$ 1", "LD A,0x12", "LD A,#12", "LD A,$$12", "LD A,$12$", "LD A,$12$12", "LD A,$1$2", "$12LD A,", "$12LD A,$", "LD A,$12,", "LD A,12$", "LD A,$\x00\x00",
		"LD A,b", "LD A,$b", "LD A,w", "LD A,$w", "JP w", "JP $w", "JP $", "JP $12", "JP $123", "JP $12345", "JP 1234", "JP $abcd", "JP NZ", "JP NZ,", "JP NZ,$", "JP NZ,$12", "JP NZ $1234", "JP N,$1234", "JP HL,$1234", "JP (HL)", "JP A",
		"LD A,()", "LD A,($)", "LD A,($12)", "LD A,($1234", "LD A,$1234)", "LD A,(C)", "LDH A,($1234)", "LDH A,$12", "LDH A,()", "LDH A", "LD ($12),A", "LDH ($1234),A", "LD ($1234),HL", "LD ($12),SP", "LD ($),SP",
		"LD (HL),(HL)", "LD (HL+),B", "LD B,(HL+)", "LD B,(BC)", "LD HL,SP", "LD HL,SP+", "LD HL,SP+$1234", "LD HL,SP+$", "LD HL,SP-$12", "LD HL,SP+12", "LD SP,BC", "LD AF,$1234", "LD BC,$12", "LD BC,DE",
		"RST", "RST $", "RST $0", "RST $8", "RST $01", "RST $07", "RST $09", "RST $40", "RST $0008", "RST 8", "RST 08", "RST $3", "RST $380", "RST $38$",
		"STOP", "STOP ", "STOP $", "STOP 0", "STOP $0000", "HALT $00", "DI ", "RET $00", "RET N", "RET 4", "RET ", "RETI NZ",
		"DB", "DB ", "DB $", "DB $1", "DB $123", "DB $1234", "DB 12", "DB $cb", "DB $cB", "DB $G0", "DB  $12", "db $12", "DB $12 ", "DB $12,$34", "DB B",
		"ADD", "ADD ", "ADD A,B", "ADD A,$12", "ADD $1234", "ADD HL", "ADD HL,AF", "ADD HL,$12", "ADD SP", "ADD SP,$1234", "ADD SP,HL", "XOR BC", "SUB (BC)", "AND $", "CP $1",
		"INC", "INC AF", "INC (BC)", "DEC $12", "PUSH SP", "POP SP", "PUSH A", "POP $1234", "RLCB", "SLAA", "SWAPA",
		"BIT", "BIT 7", "BIT 8,A", "BIT -1,A", "BIT 07,A", "BIT 7,", "BIT 7,BC", "BIT 7, A", "BIT 7A", "BIT,A", "BIT $7,A", "RES 0,(BC)", "SET 7,$12", "RLC", "RLC BC", "SWAP $12", "RL  A",
		"NOP; NOP", strings.Repeat("NOP", 100000), strings.Repeat("$", 100000), "LD A,$" + strings.Repeat("0", 100000) + "12",
	} {
		wantNoBytes(t, s)
	}
}

// lineForm is what all lines look like that have bytes, after the tables.
func lineForm(t *testing.T) *regexp.Regexp {
	t.Helper()
	forms := []string{`DB \$[0-9A-F]{2}`}
	for _, s := range samples(t) {
		text := strings.ReplaceAll(regexp.QuoteMeta(s.text), "<b>", `\$[0-9A-F]{2}`)
		forms = append(forms, strings.ReplaceAll(text, "<w>", `\$[0-9A-F]{4}`))
	}
	return regexp.MustCompile(`\A(?:` + strings.Join(forms, "|") + `)\z`)
}

// spoilt are the texts that a line becomes when a byte of it is left out,
// doubled, changed, or one more put in.
func spoilt(s string) []string {
	var list []string
	for k := range len(s) {
		list = append(list, s[:k]+s[k+1:], s[:k+1]+s[k:])
		for _, c := range " $,()+-019AFGHLabcz\x00\xFF" {
			list = append(list, s[:k]+string(c)+s[k+1:], s[:k]+string(c)+s[k:], s+string(c))
		}
	}
	return list
}

// P6.3: whatever text, it has bytes just if it is a line, and then those.
func TestSpoiltLines(t *testing.T) {
	form, all := lineForm(t), shapes()
	for _, s := range samples(t) {
		for _, text := range spoilt(s.with(0x0A, 0x9F)) {
			got, e := assemble(all, text)
			if !form.MatchString(text) {
				if e != api.ErrText || len(got) != 0 {
					t.Fatalf("of %q: % X, %d, not ErrText", text, got, e)
				}
				continue
			}
			one, n := One(got)
			byDB := len(got) == 1 && text == fmt.Sprintf("DB $%02X", got[0])
			if e != api.OK || !byDB && (one != text || n != len(got)) {
				t.Fatalf("of %q: % X, %d, whose line is %q", text, got, e, one)
			}
		}
	}
}

// P6.3: All, and what it answers where one line has no bytes.
func TestAll(t *testing.T) {
	got, e := All([]string{"LD A,$12", "BIT 7,(HL)", "JP $1234", "DB $00", "NOP"})
	if want := []byte{0x3E, 0x12, 0xCB, 0x7E, 0xC3, 0x34, 0x12, 0x00, 0x00}; e != api.OK || !slices.Equal(got, want) {
		t.Errorf("All: % X, %d", got, e)
	}
	for _, l := range [][]string{nil, {}} {
		if got, e := All(l); e != api.OK || len(got) != 0 {
			t.Errorf("All of no lines: % X, %d", got, e)
		}
	}
	for _, l := range [][]string{{""}, {"nop"}, {"", "NOP"}, {"NOP", ""}, {"NOP", "LD A, $12", "NOP"}, {"NOP", "NOP", "RST $09"}} {
		if got, e := All(l); e != api.ErrText || len(got) != 0 {
			t.Errorf("All(%q): % X, %d, not ErrText", l, got, e)
		}
	}
}

// wantBack fails if bytes aren't what their lines are assembled to.
func wantBack(t *testing.T, b []byte) {
	t.Helper()
	if got, e := All(Lines(b)); e != api.OK || !slices.Equal(got, b) {
		t.Errorf("All of Lines(% X): % X, %d", b, got, e)
	}
}

// P6.4: each two bytes and what ends amid an instruction, there and back. (All
// is asked of many at a time; each piece is listed by itself.)
func TestThereAndBack(t *testing.T) {
	var lines []string
	var want []byte
	for first := range 256 {
		for second := range 256 {
			for _, rest := range [][]byte{nil, {0x00}, {0xCB}, {0xC3, 0xFF}} {
				piece := append([]byte{byte(first), byte(second)}, rest...)
				lines = append(lines, Lines(piece)...)
				want = append(want, piece...)
			}
		}
		wantBack(t, []byte{byte(first)})
	}
	if got, e := All(lines); e != api.OK || !slices.Equal(got, want) {
		t.Errorf("All: %d bytes of %d, %d", len(got), len(want), e)
	}
	wantBack(t, nil)
}

// P6.4: longer ones of any bytes, the same at each run.
func TestThereAndBackOfMany(t *testing.T) {
	chance := rand.New(rand.NewSource(6))
	for n := range 300 {
		b := make([]byte, n*7)
		chance.Read(b)
		wantBack(t, b)
	}
}

// P6.4: unlike instructions have unlike lines.
func TestUnlikeLines(t *testing.T) {
	seen := map[string]string{}
	for _, s := range samples(t) {
		for _, lo := range edges {
			for _, hi := range edges {
				code := s.code(lo, hi)
				text, _ := One(code)
				if other, is := seen[text]; is && other != string(code) {
					t.Fatalf("% X and % X are both %q", other, code, text)
				}
				seen[text] = string(code)
			}
		}
	}
}

// R3: what is handed in stays as it is, and no answer is shared.
func TestNothingShared(t *testing.T) {
	b := []byte{0x3E, 0x12, 0xCB, 0x7E, 0xC3, 0x34}
	kept := slices.Clone(b)
	lines := Lines(b)
	keptLines := slices.Clone(lines)
	first, _ := All(lines)
	clear(first)
	if second, _ := All(lines); !slices.Equal(second, kept) || !slices.Equal(b, kept) || !slices.Equal(lines, keptLines) {
		t.Errorf("behind All: % X, % X, %q", second, b, lines)
	}
	clear(b)
	if !slices.Equal(lines, keptLines) {
		t.Errorf("behind a change of the bytes: %q", lines)
	}
	for _, s := range []string{"NOP", "BIT 7,(HL)", "LD A,$12", "JP $1234", "DB $12"} {
		once, _ := Assemble(s)
		want := slices.Clone(once)
		clear(once[:cap(once)])
		wantBytes(t, s, want)
	}
}

// P6.1: DB stands for the prefix and for the eleven illegal ones alone.
func TestLinesOfDB(t *testing.T) {
	var got []string
	for op := range 256 {
		if text := Text(uint8(op), false, 0, 0); strings.HasPrefix(text, "DB") {
			got = append(got, text[4:])
		}
	}
	if want := "CB D3 DB DD E3 E4 EB EC ED F4 FC FD"; strings.Join(got, " ") != want {
		t.Errorf("DB of %q", got)
	}
}

// The chapter's examples, and the document's.
func TestExamples(t *testing.T) {
	wantOne(t, []byte{62, 18}, "LD A,$12", 2)
	wantOne(t, []byte{203, 126}, "BIT 7,(HL)", 2)
	wantOne(t, []byte{195, 52}, "DB $C3", 1)
	wantBytes(t, "JP NZ,$1234", []byte{194, 52, 18})
	wantNoBytes(t, "LD A, $12")
}
