package dma

import (
	"math/rand"
	"testing"

	"whirligig/api"
)

// bools are both.
var bools = []bool{false, true}

// edges are bytes at which something changes: of a count, of what is waited
// for, of a page.
var edges = []uint8{0, 1, 2, 3, 127, 128, 158, 159, 160, 161, 191, 192, 223, 224, 225, 254, 255}

// sourceOf is what Source must answer, by the chapter's words, with whole
// numbers.
func sourceOf(page, at int) int {
	if page >= 224 {
		return 256*page + at - 8192
	}
	return 256*page + at
}

// stepped is what Step must answer, with whole numbers.
func stepped(d api.Dma) (api.Dma, uint16, uint8, bool) {
	at, wait := int(d.At), int(d.Wait)
	from, to, copies := 0, 0, d.On
	if copies {
		if at > 159 {
			at = 159
		}
		from, to = sourceOf(int(d.Page), at), at
		at++
		if at == 160 {
			d.On, at = false, 0
		}
	}
	if wait > 0 {
		wait--
		if wait == 0 {
			d.On, d.Page, at = true, d.Next, 0
		}
	}
	d.At, d.Wait = uint8(at), uint8(wait)
	return d, uint16(from), uint8(to), copies
}

// wantStep fails if a cycle does another thing.
func wantStep(t *testing.T, d api.Dma) {
	t.Helper()
	want, from, to, copies := stepped(d)
	if got, src, place, ok := Step(d); got != want || src != from || place != to || ok != copies {
		t.Fatalf("Step(%+v): %+v, %d, %d, %v, not %+v, %d, %d, %v", d, got, src, place, ok, want, from, to, copies)
	}
}

// anyDma is a transfer by chance, which often goes on, and often is about to
// end or to begin.
func anyDma(r *rand.Rand) api.Dma {
	d := api.Dma{On: r.Intn(3) > 0, Page: uint8(r.Intn(256)), At: uint8(r.Intn(256)), Wait: uint8(r.Intn(256)), Next: uint8(r.Intn(256))}
	if r.Intn(2) == 0 {
		d.At = uint8(155 + r.Intn(8))
	}
	if r.Intn(2) == 0 {
		d.Wait = uint8(r.Intn(4))
	}
	return d
}

// P19.1: what goes on goes on: nothing but Next and Wait is changed.
func TestWrite(t *testing.T) {
	for v := range 256 {
		for _, on := range bools {
			for _, page := range edges {
				for _, at := range edges {
					for _, wait := range edges {
						d := api.Dma{On: on, Page: page, At: at, Wait: wait, Next: 255 - page}
						want := api.Dma{On: on, Page: page, At: at, Wait: 2, Next: uint8(v)}
						if got := Write(d, uint8(v)); got != want {
							t.Fatalf("%d to %+v: %+v, not %+v", v, d, got, want)
						}
					}
				}
			}
		}
	}
}

// P19.1: Read tells what was asked for last, whatever goes on or waits.
func TestRead(t *testing.T) {
	for next := range 256 {
		for _, on := range bools {
			for _, other := range edges {
				d := api.Dma{On: on, Page: other, At: other, Wait: other, Next: uint8(next)}
				if got := Read(d); int(got) != next {
					t.Fatalf("Read(%+v): %d", d, got)
				}
				if got := Read(Write(d, other)); got != other {
					t.Fatalf("Read behind a Write of %d to %+v: %d", other, d, got)
				}
			}
		}
	}
}

// P19.2: each page, and each place in it, also those that no transfer copies.
func TestSource(t *testing.T) {
	for page := range 256 {
		for at := range 256 {
			if got := Source(uint8(page), uint8(at)); int(got) != sourceOf(page, at) {
				t.Fatalf("Source(%d, %d): %d, not %d", page, at, got, sourceOf(page, at))
			}
		}
	}
}

// P19.2: written out.
func TestSourceByHand(t *testing.T) {
	for _, w := range []struct {
		page, at uint8
		want     uint16
	}{
		{254, 3, 56835}, // the chapter's example
		{0, 0, 0},
		{0, 159, 159},
		{0, 255, 255},
		{1, 0, 256},
		{128, 159, 32927},
		{192, 0, 49152},
		{192, 159, 49311},
		{222, 255, 57087},
		{223, 0, 57088},
		{223, 159, 57247},
		{223, 255, 57343},
		{224, 0, 49152},
		{224, 255, 49407},
		{225, 1, 49409},
		{253, 255, 56831},
		{254, 0, 56832},
		{255, 0, 57088},
		{255, 255, 57343},
	} {
		if got := Source(w.page, w.at); got != w.want {
			t.Errorf("Source(%d, %d): %d, not %d", w.page, w.at, got, w.want)
		}
	}
}

// P19.3, R5: each At and Wait, of those that go on and that don't, odd ones
// too.
func TestStep(t *testing.T) {
	for at := range 256 {
		for wait := range 256 {
			for _, on := range bools {
				for _, page := range edges {
					wantStep(t, api.Dma{On: on, Page: page, At: uint8(at), Wait: uint8(wait), Next: 255 - page})
					wantStep(t, api.Dma{On: on, Page: page, At: uint8(at), Wait: uint8(wait), Next: page})
				}
			}
		}
	}
}

// P19.3: each Page and Next, at the places and waits where something changes.
func TestStepOfEachPage(t *testing.T) {
	for page := range 256 {
		for next := range 256 {
			for _, at := range []uint8{0, 1, 158, 159, 160, 255} {
				for wait := range uint8(4) {
					wantStep(t, api.Dma{Page: uint8(page), At: at, Wait: wait, Next: uint8(next)})
					wantStep(t, api.Dma{On: true, Page: uint8(page), At: at, Wait: wait, Next: uint8(next)})
				}
			}
		}
	}
}

// P19.3: written out.
func TestStepByHand(t *testing.T) {
	for _, w := range []struct {
		from, want api.Dma
		src        uint16
		to         uint8
		copies     bool
	}{
		// Nothing goes on, and nothing waits.
		{api.Dma{}, api.Dma{}, 0, 0, false},
		{api.Dma{Page: 5, At: 7, Next: 9}, api.Dma{Page: 5, At: 7, Next: 9}, 0, 0, false},
		{api.Dma{Page: 255, At: 255, Next: 255}, api.Dma{Page: 255, At: 255, Next: 255}, 0, 0, false},
		// One waits: it begins in the cycle behind the last it waits for.
		{api.Dma{Wait: 2, Next: 192}, api.Dma{Wait: 1, Next: 192}, 0, 0, false},
		{api.Dma{Wait: 1, Next: 192}, api.Dma{On: true, Page: 192, Next: 192}, 0, 0, false},
		{api.Dma{Page: 5, At: 7, Wait: 1, Next: 9}, api.Dma{On: true, Page: 9, Next: 9}, 0, 0, false},
		{api.Dma{Page: 5, At: 200, Wait: 3, Next: 9}, api.Dma{Page: 5, At: 200, Wait: 2, Next: 9}, 0, 0, false},
		{api.Dma{Wait: 255}, api.Dma{Wait: 254}, 0, 0, false},
		{api.Dma{Wait: 1}, api.Dma{On: true}, 0, 0, false},
		// One goes on.
		{api.Dma{On: true}, api.Dma{On: true, At: 1}, 0, 0, true},
		{api.Dma{On: true, Page: 192, Next: 8}, api.Dma{On: true, Page: 192, At: 1, Next: 8}, 49152, 0, true},
		{api.Dma{On: true, Page: 2, At: 158}, api.Dma{On: true, Page: 2, At: 159}, 670, 158, true},
		{api.Dma{On: true, Page: 2, At: 159}, api.Dma{Page: 2}, 671, 159, true},
		{api.Dma{On: true, Page: 2, At: 160}, api.Dma{Page: 2}, 671, 159, true},
		{api.Dma{On: true, Page: 2, At: 255, Next: 3}, api.Dma{Page: 2, Next: 3}, 671, 159, true},
		{api.Dma{On: true, Page: 255, At: 255}, api.Dma{Page: 255}, 57247, 159, true},
		// One goes on while another waits: a byte more of the old one.
		{api.Dma{On: true, Page: 1, At: 10, Wait: 2, Next: 7}, api.Dma{On: true, Page: 1, At: 11, Wait: 1, Next: 7}, 266, 10, true},
		{api.Dma{On: true, Page: 1, At: 10, Wait: 1, Next: 7}, api.Dma{On: true, Page: 7, Next: 7}, 266, 10, true},
		{api.Dma{On: true, Page: 1, At: 159, Wait: 2, Next: 7}, api.Dma{Page: 1, Wait: 1, Next: 7}, 415, 159, true},
		{api.Dma{On: true, Page: 1, At: 159, Wait: 1, Next: 7}, api.Dma{On: true, Page: 7, Next: 7}, 415, 159, true},
		{api.Dma{On: true, Page: 1, At: 200, Wait: 1, Next: 7}, api.Dma{On: true, Page: 7, Next: 7}, 415, 159, true},
	} {
		if got, src, to, copies := Step(w.from); got != w.want || src != w.src || to != w.to || copies != w.copies {
			t.Errorf("Step(%+v): %+v, %d, %d, %v, not %+v, %d, %d, %v", w.from, got, src, to, copies, w.want, w.src, w.to, w.copies)
		}
	}
}

// P19.4: a whole transfer of each page: the third cycle copies the first byte,
// the 162nd the last one, and then it is over.
func TestWhole(t *testing.T) {
	for page := range 256 {
		d := Write(api.Dma{}, uint8(page))
		for cycle := 1; cycle <= 400; cycle++ {
			next, src, to, copies := Step(d)
			n := cycle - 3
			if in := n >= 0 && n < 160; copies != in {
				t.Fatalf("page %d, cycle %d: %v", page, cycle, copies)
			}
			if copies && (int(src) != sourceOf(page, n) || int(to) != n) {
				t.Fatalf("page %d, cycle %d: from %d to %d", page, cycle, src, to)
			}
			if !copies && (src != 0 || to != 0) {
				t.Fatalf("page %d, cycle %d: nothing is copied, from %d to %d", page, cycle, src, to)
			}
			d = next
			if wantOn := cycle >= 2 && cycle < 162; d.On != wantOn || int(Read(d)) != page {
				t.Fatalf("page %d, behind cycle %d: %+v", page, cycle, d)
			}
		}
		if want := (api.Dma{Page: uint8(page), Next: uint8(page)}); d != want {
			t.Fatalf("page %d, at the end: %+v", page, d)
		}
	}
}

// P19.4: one that goes on copies two more bytes behind a Write, then the new
// one begins with its own first.
func TestWriteWhileOneGoesOn(t *testing.T) {
	for over := 1; over <= 160; over++ {
		d := Write(api.Dma{}, 192)
		for range 2 + over {
			d, _, _, _ = Step(d)
		}
		d = Write(d, 16)
		for cycle := 1; cycle <= 200; cycle++ {
			next, src, to, copies := Step(d)
			n, page := over+cycle-1, 192
			if cycle >= 3 {
				n, page = cycle-3, 16
			}
			if copies != (n < 160) {
				t.Fatalf("%d bytes are over, cycle %d: %v", over, cycle, copies)
			}
			if copies && (int(src) != 256*page+n || int(to) != n) {
				t.Fatalf("%d bytes are over, cycle %d: from %d to %d", over, cycle, src, to)
			}
			d = next
		}
	}
}

// P19.4: of two that are asked for while the first one waits only the later
// one begins, two cycles behind it.
func TestWriteWhileOneWaits(t *testing.T) {
	for gap := range 2 {
		d := Write(api.Dma{}, 32)
		for range gap {
			d, _, _, _ = Step(d)
		}
		d = Write(d, 48)
		var places []uint16
		for cycle := 1; cycle <= 400; cycle++ {
			next, src, _, copies := Step(d)
			if copies {
				places = append(places, src)
			}
			if copies != (cycle >= 3 && cycle <= 162) {
				t.Fatalf("gap %d, cycle %d: %v", gap, cycle, copies)
			}
			d = next
		}
		for n, src := range places {
			if int(src) != 48*256+n {
				t.Fatalf("gap %d: byte %d comes from %d", gap, n, src)
			}
		}
	}
}

// P19.4: one that is written anew in each cycle never begins.
func TestWriteInEachCycle(t *testing.T) {
	d := api.Dma{}
	for v := range 1000 {
		next, _, _, copies := Step(Write(d, uint8(v)))
		if copies || next.On || next.Wait != 1 {
			t.Fatalf("cycle %d: %+v, %v", v, next, copies)
		}
		d = next
	}
}

// P19.1 to P19.4, R4: long runs by chance, in which two transfers go on beside
// each other, and neither knows of the other.
func TestRuns(t *testing.T) {
	r := rand.New(rand.NewSource(191))
	for range 400 {
		d, other := anyDma(r), anyDma(r)
		for range 500 {
			wantStep(t, d)
			d, _, _, _ = Step(d)
			other, _, _, _ = Step(other)
			if r.Intn(90) == 0 {
				v := uint8(r.Intn(256))
				want := d
				want.Next, want.Wait = v, 2
				if d = Write(d, v); d != want || Read(d) != v {
					t.Fatalf("Write of %d: %+v, not %+v", v, d, want)
				}
			}
		}
	}
}

// P1, R5: any transfer comes to its end, and stands still from then on.
func TestEnds(t *testing.T) {
	r := rand.New(rand.NewSource(192))
	for range 3000 {
		d := anyDma(r)
		for range 255 + 160 {
			d, _, _, _ = Step(d)
		}
		if next, src, to, copies := Step(d); d.On || d.Wait != 0 || next != d || src != 0 || to != 0 || copies {
			t.Fatalf("%+v: %+v, %d, %d, %v", d, next, src, to, copies)
		}
	}
}
