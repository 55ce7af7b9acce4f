package header

import (
	"bytes"
	"math/rand"
	"slices"
	"strings"
	"testing"

	"whirligig/api"
)

// kindTable is the chapter's list of kinds, written out once more: the number,
// the mapper, then r, b, c for RAM, battery, clock.
var kindTable = map[uint8]struct {
	mapper int
	has    string
}{
	0: {api.MapNone, ""}, 8: {api.MapNone, "r"}, 9: {api.MapNone, "rb"},
	1: {api.Map1, ""}, 2: {api.Map1, "r"}, 3: {api.Map1, "rb"},
	15: {api.Map3, "cb"}, 16: {api.Map3, "crb"}, 17: {api.Map3, ""}, 18: {api.Map3, "r"}, 19: {api.Map3, "rb"},
	25: {api.Map5, ""}, 28: {api.Map5, ""}, 26: {api.Map5, "r"}, 29: {api.Map5, "r"}, 27: {api.Map5, "rb"}, 30: {api.Map5, "rb"},
}

// ramBytes are the sizes of RAM by their numbers.
var ramBytes = []int{0, 2048, 8192, 32768, 131072, 65536}

// headSum is the sum of a head, reckoned as one number.
func headSum(head []byte) byte {
	sum := 0
	for at := 308; at <= 332; at++ {
		sum += int(head[at]) + 1
	}
	return byte((1<<20 - sum) % 256)
}

// allSum is Whole, reckoned as one number.
func allSum(image []byte) uint16 {
	sum := 0
	for _, b := range image {
		sum += int(b)
	}
	for at := 334; at <= 335 && at < len(image); at++ {
		sum -= int(image[at])
	}
	return uint16(sum % 65536)
}

// patch is a place of an image and what is laid there.
type patch struct {
	at   int
	text string
}

// headed is an image of that many bytes, with a sum that is right.
func headed(length int, patches ...patch) []byte {
	image := make([]byte, length)
	for _, p := range patches {
		copy(image[p.at:], p.text)
	}
	image[333] = headSum(image)
	return image
}

// sized is a patch of kind, rom and ram.
func sized(kind, rom, ram int) patch {
	return patch{327, string([]byte{byte(kind), byte(rom), byte(ram)})}
}

// wantHead fails if an image is read another way.
func wantHead(t *testing.T, image []byte, want api.Header) {
	t.Helper()
	if got, e := Parse(image); e != api.OK || got != want {
		t.Errorf("Parse of %d bytes: %+v, %d, not %+v", len(image), got, e, want)
	}
}

// wantFault fails if an image isn't refused that way.
func wantFault(t *testing.T, image []byte, want api.Errno) {
	t.Helper()
	if got, e := Parse(image); e != want || got != (api.Header{}) {
		t.Errorf("Parse of %d bytes: %+v, %d, not %d", len(image), got, e, want)
	}
}

// P7.1: each kind with each two sizes, and each kind that there isn't.
func TestParseKindsAndSizes(t *testing.T) {
	for kind := range 256 {
		for rom := range 9 {
			for ram := range 6 {
				image := headed(336, patch{308, "KINDS"}, sized(kind, rom, ram), patch{334, "\x12\x34"})
				has, ok := kindTable[uint8(kind)]
				if !ok {
					wantFault(t, image, api.ErrKind)
					continue
				}
				want := api.Header{
					Title: "KINDS", Kind: uint8(kind), Mapper: has.mapper,
					Ram: strings.Contains(has.has, "r"), Battery: strings.Contains(has.has, "b"), Clock: strings.Contains(has.has, "c"),
					Banks: []int{2, 4, 8, 16, 32, 64, 128, 256, 512}[rom],
					Sum:   image[333], Whole: 0x1234,
				}
				if want.Ram {
					want.Size = ramBytes[ram]
				}
				wantHead(t, image, want)
			}
		}
	}
}

// P7.1: numbers that stand for no size.
func TestParseWrongSizes(t *testing.T) {
	for n := range 256 {
		if n > 8 {
			wantFault(t, headed(336, sized(0, n, 0)), api.ErrSize)
			wantFault(t, headed(336, sized(30, n, 5)), api.ErrSize)
		}
		// Also where the kind has no RAM.
		if n > 5 {
			wantFault(t, headed(336, sized(0, 0, n)), api.ErrSize)
			wantFault(t, headed(336, sized(30, 8, n)), api.ErrSize)
		}
	}
	wantFault(t, headed(336, sized(0, 255, 255)), api.ErrSize)
}

// P7.1: an image has at most what its head allows, and at least a head.
func TestParseLengths(t *testing.T) {
	for rom := range 9 {
		most := 32768 << rom
		for _, length := range []int{336, 337, most - 1, most} {
			image := headed(length, sized(1, rom, 0))
			wantHead(t, image, api.Header{Kind: 1, Mapper: api.Map1, Banks: 2 << rom, Sum: image[333]})
		}
		wantFault(t, headed(most+1, sized(1, rom, 0)), api.ErrSize)
		wantFault(t, headed(2*most, sized(1, rom, 0)), api.ErrSize)
	}
	whole := headed(336)
	for length := range 336 {
		wantFault(t, whole[:length], api.ErrShort)
	}
	wantFault(t, nil, api.ErrShort)
}

// P7.1: a sum that isn't the head's.
func TestParseWrongSums(t *testing.T) {
	image := headed(400, patch{308, "SUMS"}, sized(3, 1, 2))
	right := image[333]
	for v := range 256 {
		image[333] = byte(v)
		if byte(v) != right {
			wantFault(t, image, api.ErrSum)
		}
	}
}

// R1: of several errors the one that is named first.
func TestParseOrderOfErrors(t *testing.T) {
	for _, c := range []struct {
		length, kind, rom, ram int
		sum                    bool
		want                   api.Errno
	}{
		{335, 4, 9, 6, false, api.ErrShort},
		{336, 4, 9, 6, false, api.ErrKind},
		{336, 4, 0, 0, true, api.ErrKind},
		{40000, 4, 0, 0, true, api.ErrKind},
		{336, 4, 0, 0, false, api.ErrKind},
		{336, 0, 9, 0, false, api.ErrSize},
		{336, 0, 0, 6, false, api.ErrSize},
		{32769, 0, 0, 0, false, api.ErrSize},
		{32768, 0, 0, 0, false, api.ErrSum},
		{32768, 0, 0, 0, true, api.OK},
	} {
		image := headed(max(c.length, 336), sized(c.kind, c.rom, c.ram))
		if !c.sum {
			image[333]++
		}
		if _, e := Parse(image[:c.length]); e != c.want {
			t.Errorf("%+v: %d", c, e)
		}
	}
}

// wantTitle fails if what stands at 308 is read as another title.
func wantTitle(t *testing.T, text, want string) {
	t.Helper()
	if h, e := Parse(headed(336, patch{308, text})); e != api.OK || h.Title != want {
		t.Errorf("title of %q: %q, %d, not %q", text, h.Title, e, want)
	}
}

// P7.1: titles end ahead of the first byte that may not be, or behind 16.
func TestParseTitles(t *testing.T) {
	const long = "ABCDEFGHIJKLMNOPQRS" // the last stands at 326, ahead of the kind
	wantTitle(t, "", "")
	wantTitle(t, long, long[:16])
	wantTitle(t, " ~ ~ ", " ~ ~ ")
	wantTitle(t, "A\x00B", "A")
	wantTitle(t, "\x00AB", "")
	wantTitle(t, strings.Repeat(" ", 19), strings.Repeat(" ", 16))
	for n := range 16 {
		wantTitle(t, long[:n], long[:n])
		for v := range 256 {
			text := long[:n] + string([]byte{byte(v)}) + long[n+1:]
			if v < 32 || v > 126 {
				wantTitle(t, text, text[:n])
			} else {
				wantTitle(t, text, text[:16])
			}
		}
	}
}

// P7.1: Whole is what the head tells, right or not.
func TestParseWhole(t *testing.T) {
	image := headed(336)
	for w := range 65536 {
		image[334], image[335] = byte(w/256), byte(w%256)
		wantHead(t, image, api.Header{Banks: 2, Sum: image[333], Whole: uint16(w)})
	}
}

// wantSum fails if the sum is another one.
func wantSum(t *testing.T, image []byte, want uint8, fault api.Errno) {
	t.Helper()
	if got, e := Sum(image); got != want || e != fault {
		t.Errorf("Sum of %d bytes: %d, %d, not %d, %d", len(image), got, e, want, fault)
	}
}

// P7.2: the sum asks nothing else of a head, and nothing of what is elsewhere.
func TestSum(t *testing.T) {
	image := make([]byte, 336)
	wantSum(t, image, 256-25, api.OK)
	for at := range 336 {
		for _, v := range []byte{1, 127, 128, 255} {
			image[at] = v
			want := byte(256 - 25)
			if 308 <= at && at <= 332 {
				want -= v
			}
			wantSum(t, image, want, api.OK)
		}
		image[at] = 0
	}
	wantSum(t, bytes.Repeat([]byte{255}, 336), 0, api.OK)
	wantSum(t, bytes.Repeat([]byte{255}, 10000000), 0, api.OK)
	chance := rand.New(rand.NewSource(7))
	for n := range 200 {
		image := make([]byte, 336+n)
		chance.Read(image)
		wantSum(t, image, headSum(image), api.OK)
	}
}

// P7.2: too few bytes have no sum.
func TestSumOfTooFew(t *testing.T) {
	image := bytes.Repeat([]byte{7}, 336)
	for length := range 336 {
		wantSum(t, image[:length], 0, api.ErrShort)
	}
	wantSum(t, nil, 0, api.ErrShort)
}

// wantWhole fails if all bytes together are another number.
func wantWhole(t *testing.T, image []byte, want uint16) {
	t.Helper()
	if got := Whole(image); got != want {
		t.Errorf("Whole of %d bytes: %d, not %d", len(image), got, want)
	}
}

// P7.2
func TestWhole(t *testing.T) {
	wantWhole(t, nil, 0)
	wantWhole(t, []byte{}, 0)
	wantWhole(t, []byte{200, 100}, 300)
	for length, want := range map[int]uint16{333: 333 * 255 % 65536, 334: 334 * 255 % 65536, 335: 334 * 255 % 65536, 336: 334 * 255 % 65536, 337: 335 * 255 % 65536, 259: 259 * 255 % 65536} {
		wantWhole(t, bytes.Repeat([]byte{255}, length), want)
	}
	image := make([]byte, 1000)
	for at := range image {
		image[at] = 255
		if at == 334 || at == 335 {
			wantWhole(t, image, 0)
		} else {
			wantWhole(t, image, 255)
		}
		image[at] = 0
	}
	chance := rand.New(rand.NewSource(72))
	for n := range 400 {
		image := make([]byte, n*n)
		chance.Read(image)
		wantWhole(t, image, allSum(image))
	}
}

// P7.2: modulo 65536, not less.
func TestWholeGoesRound(t *testing.T) {
	ones := bytes.Repeat([]byte{1}, 65536+2)
	wantWhole(t, ones[:65535+2], 65535)
	wantWhole(t, ones, 0)
	wantWhole(t, append(ones, 5), 5)
}

// made is what Make must lay, byte by byte.
func made(title string, kind, rom, ram uint8, code []byte) []byte {
	image := headed(336, patch{256, "\x00\xC3\x50\x01"}, patch{308, title}, sized(int(kind), int(rom), int(ram)))
	image = append(image, code...)
	whole := allSum(image)
	image[334], image[335] = byte(whole/256), byte(whole%256)
	return image
}

// wantMade fails if an image is another one, or isn't parsed as it was told.
func wantMade(t *testing.T, title string, kind, rom, ram uint8, code []byte) {
	t.Helper()
	image, e := Make(title, kind, rom, ram, code)
	if e != api.OK || !slices.Equal(image, made(title, kind, rom, ram, code)) {
		t.Errorf("Make(%q, %d, %d, %d) of %d bytes: %d bytes, %d", title, kind, rom, ram, len(code), len(image), e)
		return
	}
	h, e := Parse(image)
	sum, _ := Sum(image)
	has := kindTable[kind]
	size := 0
	if strings.Contains(has.has, "r") {
		size = ramBytes[ram]
	}
	if e != api.OK || h.Title != title || h.Kind != kind || h.Mapper != has.mapper || h.Banks != 2<<rom || h.Size != size || h.Sum != sum || h.Whole != Whole(image) {
		t.Errorf("Parse of Make(%q, %d, %d, %d): %+v, %d", title, kind, rom, ram, h, e)
	}
}

// wantNotMade fails if an image isn't refused that way.
func wantNotMade(t *testing.T, title string, kind, rom, ram uint8, code []byte, want api.Errno) {
	t.Helper()
	if image, e := Make(title, kind, rom, ram, code); e != want || len(image) != 0 {
		t.Errorf("Make(%q, %d, %d, %d) of %d bytes: %d bytes, %d, not %d", title, kind, rom, ram, len(code), len(image), e, want)
	}
}

// P7.3, P7.4, P2: each kind with each two sizes, there and back.
func TestMake(t *testing.T) {
	code := []byte{0x3E, 0x12, 0x76}
	for kind := range 256 {
		_, ok := kindTable[uint8(kind)]
		for rom := range uint8(9) {
			for ram := range uint8(6) {
				if ok {
					wantMade(t, "THERE AND BACK", uint8(kind), rom, ram, code)
				} else {
					wantNotMade(t, "THERE AND BACK", uint8(kind), rom, ram, code, api.ErrKind)
				}
			}
		}
	}
}

// P7.3: each byte in a title, and each length of one.
func TestMakeTitles(t *testing.T) {
	const long = "ABCDEFGHIJKLMNOPQ"
	for n := range 17 {
		wantMade(t, long[:n], 3, 2, 3, nil)
	}
	wantNotMade(t, long, 3, 2, 3, nil, api.ErrArg)
	wantNotMade(t, strings.Repeat(long, 1000), 3, 2, 3, nil, api.ErrArg)
	for n := range 16 {
		for v := range 256 {
			title := long[:n] + string([]byte{byte(v)}) + long[n+1:16]
			if v < 32 || v > 126 {
				wantNotMade(t, title, 3, 2, 3, nil, api.ErrArg)
			} else {
				wantMade(t, title, 3, 2, 3, nil)
			}
		}
	}
	wantNotMade(t, "\u00E9", 0, 0, 0, nil, api.ErrArg)
	wantNotMade(t, "A\x00", 0, 0, 0, nil, api.ErrArg)
}

// P7.3: numbers that stand for no size.
func TestMakeWrongSizes(t *testing.T) {
	for n := range 256 {
		if n > 8 {
			wantNotMade(t, "", 0, uint8(n), 0, nil, api.ErrSize)
		}
		if n > 5 {
			wantNotMade(t, "", 0, 0, uint8(n), nil, api.ErrSize)
			wantNotMade(t, "", 30, 8, uint8(n), nil, api.ErrSize)
		}
	}
}

// P7.3: code fills an image at most.
func TestMakeLengths(t *testing.T) {
	code := bytes.Repeat([]byte{0xCB, 0x7E}, api.MaxImage/2)
	for rom := range uint8(9) {
		most := 32768<<rom - 336
		for _, n := range []int{0, 1, most - 1, most} {
			wantMade(t, "FULL", 27, rom, 4, code[:n])
		}
		wantNotMade(t, "FULL", 27, rom, 4, code[:most+1], api.ErrSize)
	}
}

// R1: of several errors the one that is named first.
func TestMakeOrderOfErrors(t *testing.T) {
	code := make([]byte, 32768)
	wantNotMade(t, "\n", 4, 9, 6, code, api.ErrArg)
	wantNotMade(t, "\n", 4, 0, 0, nil, api.ErrArg)
	wantNotMade(t, "\n", 0, 9, 0, nil, api.ErrArg)
	wantNotMade(t, "A", 4, 9, 6, code, api.ErrKind)
	wantNotMade(t, "A", 4, 0, 0, code, api.ErrKind)
	wantNotMade(t, "A", 0, 0, 0, code, api.ErrSize)
	wantNotMade(t, "A", 0, 9, 0, code, api.ErrSize)
}

// P7.4: no byte from 308 to 333 may be another one.
func TestSpoiltHeads(t *testing.T) {
	for kind := range kindTable {
		image, _ := Make("SPOILT", kind, 4, 2, []byte{1, 2, 3})
		for at := 308; at <= 333; at++ {
			kept := image[at]
			for v := range 256 {
				image[at] = byte(v)
				if h, e := Parse(image); byte(v) != kept && (e == api.OK || h != (api.Header{})) {
					t.Fatalf("kind %d with %d at %d: %+v, %d", kind, v, at, h, e)
				}
			}
			image[at] = kept
		}
	}
}

// P7.4: what stands elsewhere plays no part.
func TestWhatPlaysNoPart(t *testing.T) {
	image, _ := Make("ELSEWHERE", 16, 4, 2, make([]byte, 500))
	want, _ := Parse(image)
	for at := range image {
		if at >= 308 && at <= 335 {
			continue
		}
		for _, v := range []byte{0, 1, 128, 255} {
			kept := image[at]
			image[at] = v
			wantHead(t, image, want)
			image[at] = kept
		}
	}
	for at := range image {
		if at < 308 || at > 335 {
			image[at] = byte(at * 7)
		}
	}
	wantHead(t, image, want)
	wantHead(t, image[:336], want)
}

// R3: what is handed in stays as it is, and no answer is shared.
func TestNothingShared(t *testing.T) {
	code := []byte{1, 2, 3}
	first, _ := Make("SHARED", 3, 1, 2, code)
	kept := slices.Clone(first)
	h, _ := Parse(first)
	Sum(first)
	Whole(first)
	if !slices.Equal(first, kept) || !slices.Equal(code, []byte{1, 2, 3}) {
		t.Error("what was handed in is another")
	}
	clear(first[:cap(first)])
	if !slices.Equal(code, []byte{1, 2, 3}) || h.Title != "SHARED" {
		t.Errorf("behind a change of the image: % X, %q", code, h.Title)
	}
	if second, _ := Make("SHARED", 3, 1, 2, code); !slices.Equal(second, kept) {
		t.Error("a second image is another")
	}
}

// R2: no code is no code, nil or empty.
func TestNilAndEmpty(t *testing.T) {
	a, _ := Make("", 0, 0, 0, nil)
	b, _ := Make("", 0, 0, 0, []byte{})
	if len(a) != 336 || !slices.Equal(a, b) {
		t.Errorf("%d and %d bytes", len(a), len(b))
	}
}

// P1: any bytes are answered, whatever they say.
func TestParseOfAnyBytes(t *testing.T) {
	chance := rand.New(rand.NewSource(71))
	for n := range 3000 {
		image := make([]byte, n)
		chance.Read(image)
		if h, e := Parse(image); e != api.OK && h != (api.Header{}) {
			t.Fatalf("%+v beside %d", h, e)
		}
	}
}

// The chapter's examples.
func TestExamples(t *testing.T) {
	image, e := Make("A", 0, 0, 0, []byte{118})
	if e != api.OK || len(image) != 337 {
		t.Fatal(len(image), e)
	}
	wantSum(t, image, 166, api.OK)
	wantHead(t, image, api.Header{Title: "A", Mapper: api.MapNone, Banks: 2, Sum: 166, Whole: Whole(image)})
	wantFault(t, image[:335], api.ErrShort)
	wantFault(t, headed(336, sized(4, 0, 0)), api.ErrKind)
	wantNotMade(t, "", 4, 0, 0, nil, api.ErrKind)
}
