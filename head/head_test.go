package head

import (
	"math"
	"testing"

	"flit/api"
	"flit/edges"
)

// layout is the chapter's: each part of a header, the bit at which it begins, how many it has.
var layout = []struct {
	name     string
	at, bits uint
	part     func(h *api.Head) *int
}{
	{"State", 0, 2, func(h *api.Head) *int { return &h.State }},
	{"Class", 2, 2, func(h *api.Head) *int { return &h.Class }},
	{"Count", 4, 3, func(h *api.Head) *int { return &h.Count }},
	{"Mark", 7, 1, func(h *api.Head) *int { return &h.Mark }},
	{"Grey", 8, 1, func(h *api.Head) *int { return &h.Grey }},
	{"Tag", 9, 3, func(h *api.Head) *int { return &h.Tag }},
	{"Link", 12, 12, func(h *api.Head) *int { return &h.Link }},
}

const headerBits = 24

// beyond has all bits that a header does not have.
const beyond uint64 = math.MaxUint64 - (1<<headerBits - 1)

// P2.1, by the chapter's example and by hand.
func TestWord(t *testing.T) {
	for _, x := range []struct {
		h    api.Head
		want uint64
	}{
		{api.Head{State: 1, Class: 0, Count: 3, Mark: 1, Grey: 0, Tag: 2, Link: 5}, 21681},
		{api.Head{}, 0},
		{api.Head{State: 3, Class: 3, Count: 7, Mark: 1, Grey: 1, Tag: 7, Link: 4095}, 1<<24 - 1},
		{api.Head{State: api.CellWide}, 2},
		{api.Head{Class: 1}, 4},
		{api.Head{Count: 1}, 16},
		{api.Head{Mark: 1}, 128},
		{api.Head{Grey: 1}, 256},
		{api.Head{Tag: 1}, 512},
		{api.Head{Link: 1}, 4096},
		// What does not fit, alone and beside others that do.
		{api.Head{State: 4, Class: 4, Count: 8, Mark: 2, Grey: 2, Tag: 8, Link: 4096}, 0},
		{api.Head{State: 5, Class: 6, Count: 15, Mark: 3, Grey: 2, Tag: 9, Link: 4098}, 1 + 2<<2 + 7<<4 + 1<<7 + 1<<9 + 2<<12},
		{api.Head{Class: 7, Tag: 2}, 3<<2 + 2<<9},
		// What is below 0.
		{api.Head{State: -1, Class: -1, Count: -1, Mark: -1, Grey: -1, Tag: -1, Link: -1}, 1<<24 - 1},
		{api.Head{State: -3, Class: -2, Count: -7, Mark: -2, Grey: -3, Tag: -6, Link: -4095}, 1 + 2<<2 + 1<<4 + 1<<8 + 2<<9 + 1<<12},
		{api.Head{Link: -1}, 4095 << 12},
		{api.Head{State: math.MinInt, Class: math.MaxInt, Link: math.MinInt}, 3 << 2},
	} {
		if got := Word(x.h); got != x.want {
			t.Errorf("Word(%+v) = %d, want %d", x.h, got, x.want)
		}
	}
}

// P2.1: each part is in its own bits, modulo what they hold, and touches no other's, be those all 0 or all 1.
func TestWordOfEachPart(t *testing.T) {
	for _, ones := range []bool{false, true} {
		for _, x := range layout {
			for _, n := range edges.Numbers() {
				var h api.Head
				others := uint64(0)
				if ones {
					h = api.Head{State: 3, Class: 3, Count: 7, Mark: 1, Grey: 1, Tag: 7, Link: 4095}
					others = (1<<headerBits - 1) &^ ((1<<x.bits - 1) << x.at)
				}
				*x.part(&h) = n
				if got, want := Word(h), others+edges.Modulo(n, x.bits)<<x.at; got != want {
					t.Fatalf("Word(%+v) = %d, want %d (%s)", h, got, want, x.name)
				}
			}
		}
	}
}

// P2.1, by the chapter's example and by hand.
func TestOf(t *testing.T) {
	all := api.Head{State: 3, Class: 3, Count: 7, Mark: 1, Grey: 1, Tag: 7, Link: 4095}
	for _, x := range []struct {
		w    uint64
		want api.Head
	}{
		{21681, api.Head{State: 1, Class: 0, Count: 3, Mark: 1, Grey: 0, Tag: 2, Link: 5}},
		{0, api.Head{}},
		{1, api.Head{State: api.CellObject}},
		{4, api.Head{Class: 1}},
		{16, api.Head{Count: 1}},
		{128, api.Head{Mark: 1}},
		{256, api.Head{Grey: 1}},
		{512, api.Head{Tag: 1}},
		{4096, api.Head{Link: 1}},
		{1 << 23, api.Head{Link: 2048}},
		{1<<24 - 1, all},
		// Bits beyond a header's.
		{1 << 24, api.Head{}},
		{1 << 63, api.Head{}},
		{1<<63 + 1<<24 + 21681, api.Head{State: 1, Count: 3, Mark: 1, Tag: 2, Link: 5}},
		{math.MaxUint64, all},
	} {
		if got := Of(x.w); got != x.want {
			t.Errorf("Of(%d) = %+v, want %+v", x.w, got, x.want)
		}
	}
}

// P2.1: of each word of a header, whatever stands above it, Of tells the bits as the chapter lays them, and Word makes the header's part of it again.
func TestOfEachWord(t *testing.T) {
	above := []uint64{0, 1 << 24, 1 << 63, beyond}
	for w := range uint64(1 << headerBits) {
		full := w | above[w%4] | above[w/4%4]
		h := Of(full)
		for _, x := range layout {
			if got := *x.part(&h); got != int(w>>x.at%(1<<x.bits)) {
				t.Fatalf("Of(%d) = %+v (%s)", full, h, x.name)
			}
		}
		if Word(h) != w {
			t.Fatalf("Word(Of(%d)) = %d, want %d", full, Word(h), w)
		}
	}
}

// P2.2, by the chapter's examples and by hand.
func TestMoved(t *testing.T) {
	moved := Word(api.Head{State: api.CellObject, Tag: api.TagMoved, Link: 5})
	for _, x := range []struct {
		w       uint64
		a, want int
	}{
		{21681, 9, 5},
		{0, 9, 9},
		{moved, 9, 5},
		{moved, 5, 5},
		{moved, -1, 5},
		{moved | beyond, 9, 5},
		{Word(api.Head{State: api.CellObject, Tag: api.TagMoved}), 9, 0},
		{Word(api.Head{State: api.CellObject, Tag: api.TagMoved, Link: 4095}), 9, 4095},
		{Word(api.Head{State: api.CellObject, Class: 3, Count: 7, Mark: 1, Grey: 1, Tag: api.TagMoved, Link: 7}), 9, 7},
		// The address comes back as it is, whatever it is.
		{math.MaxUint64, 9, 9},
		{0, 0, 0},
		{0, -9, -9},
		{1, math.MaxInt, math.MaxInt},
		{2, math.MinInt, math.MinInt},
	} {
		if got := Moved(x.w, x.a); got != x.want {
			t.Errorf("Moved(%d, %d) = %d, want %d", x.w, x.a, got, x.want)
		}
	}
}

// P2.2: the Link is told of one State and one Tag alone, whatever the rest is.
func TestMovedByStateAndTag(t *testing.T) {
	for state := range 4 {
		for tag := range 8 {
			for rest := range 1 << 5 {
				h := api.Head{State: state, Class: rest % 4, Count: rest / 4, Mark: rest % 2, Grey: rest / 2 % 2, Tag: tag, Link: 77}
				want := 300
				if state == api.CellObject && tag == api.TagMoved {
					want = 77
				}
				if got := Moved(Word(h), 300); got != want {
					t.Fatalf("Moved of %+v = %d, want %d", h, got, want)
				}
			}
		}
	}
}

// P2.3: a header comes back, if each number is one that its bits hold; a number that they do not hold comes back as its modulo.
func TestOfOfWord(t *testing.T) {
	base := api.Head{State: 1, Class: 2, Count: 5, Mark: 1, Grey: 0, Tag: 5, Link: 1000}
	for _, x := range layout {
		for n := range 1 << x.bits {
			h := base
			*x.part(&h) = n
			if got := Of(Word(h)); got != h {
				t.Fatalf("Of(Word(%+v)) = %+v", h, got)
			}
		}
		for _, n := range edges.Numbers() {
			h, want := base, base
			*x.part(&h) = n
			*x.part(&want) = int(edges.Modulo(n, x.bits))
			if got := Of(Word(h)); got != want {
				t.Fatalf("Of(Word(%+v)) = %+v, want %+v", h, got, want)
			}
		}
	}
}
