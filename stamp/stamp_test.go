package stamp

import (
	"math"
	"testing"

	"flit/api"
	"flit/edges"
)

// part is one of a word, as the chapter lays it: the bit at which it begins, how many it has.
type part[T any] struct {
	name     string
	at, bits uint
	of       func(*T) *int
}

// kind is one of the three kinds of words; some is one of its things with other numbers in all parts.
type kind[T comparable] struct {
	bits     uint
	parts    []part[T]
	pack     func(T) uint64
	read     func(uint64) T
	some     T
	someWord uint64
}

func tops() kind[api.Top] {
	return kind[api.Top]{52, []part[api.Top]{
		{"At", 0, 12, func(t *api.Top) *int { return &t.At }},
		{"Ver", 12, 40, func(t *api.Top) *int { return &t.Ver }},
	}, Top, OfTop, api.Top{At: 5, Ver: 1}, 4101}
}

func phases() kind[api.Phase] {
	return kind[api.Phase]{46, []part[api.Phase]{
		{"No", 0, 40, func(p *api.Phase) *int { return &p.No }},
		{"Mode", 40, 4, func(p *api.Phase) *int { return &p.Mode }},
		{"Mark", 44, 1, func(p *api.Phase) *int { return &p.Mark }},
		{"List", 45, 1, func(p *api.Phase) *int { return &p.List }},
	}, Phase, OfPhase, api.Phase{No: 3, Mode: 5, Mark: 1, List: 0}, 3 + 5<<40 + 1<<44}
}

func blocks() kind[api.Block] {
	return kind[api.Block]{12, []part[api.Block]{
		{"State", 0, 2, func(b *api.Block) *int { return &b.State }},
		{"Class", 2, 2, func(b *api.Block) *int { return &b.Class }},
		{"Stamp", 4, 1, func(b *api.Block) *int { return &b.Stamp }},
		{"Next", 5, 7, func(b *api.Block) *int { return &b.Next }},
	}, Block, OfBlock, api.Block{State: 2, Class: 1, Stamp: 1, Next: 4}, 150}
}

// checkPack: each part is in its own bits, modulo what they hold, and touches no other's, be those all 0 or all 1.
func (k kind[T]) checkPack(t *testing.T) {
	t.Helper()
	if got := k.pack(k.some); got != k.someWord {
		t.Errorf("%+v is packed as %d, want %d", k.some, got, k.someWord)
	}
	for _, ones := range []int{0, -1} {
		for _, p := range k.parts {
			for _, n := range edges.Numbers() {
				var x T
				for _, q := range k.parts {
					*q.of(&x) = ones
				}
				*p.of(&x) = n
				others := uint64(ones) & (1<<k.bits - 1) &^ ((1<<p.bits - 1) << p.at)
				if got, want := k.pack(x), others+edges.Modulo(n, p.bits)<<p.at; got != want {
					t.Fatalf("%+v is packed as %d, want %d (%s)", x, got, want, p.name)
				}
			}
		}
	}
}

// checkRead: each part is what its own bits are, whatever stands in the others and above them all.
func (k kind[T]) checkRead(t *testing.T) {
	t.Helper()
	if got := k.read(k.someWord); got != k.some {
		t.Errorf("%d is read as %+v, want %+v", k.someWord, got, k.some)
	}
	for _, n := range edges.Numbers() {
		for _, above := range []uint64{0, 1 << k.bits, 1 << 63, math.MaxUint64 << k.bits} {
			w := uint64(n) | above
			x := k.read(w)
			for _, p := range k.parts {
				if got, want := *p.of(&x), int(w>>p.at%(1<<p.bits)); got != want {
					t.Fatalf("%d is read as %+v, want %s %d", w, x, p.name, want)
				}
			}
			if got, want := k.pack(x), w%(1<<k.bits); got != want {
				t.Fatalf("%d is read and packed again as %d, want %d", w, got, want)
			}
		}
	}
}

// checkBack: what was packed is read as it was, a number that its bits do not hold as its modulo.
func (k kind[T]) checkBack(t *testing.T) {
	t.Helper()
	for _, p := range k.parts {
		for _, n := range edges.Numbers() {
			x, want := k.some, k.some
			*p.of(&x) = n
			*p.of(&want) = int(edges.Modulo(n, p.bits))
			if got := k.read(k.pack(x)); got != want {
				t.Fatalf("%+v is read as %+v, want %+v", x, got, want)
			}
		}
	}
}

// P3.1.
func TestTop(t *testing.T) {
	tops().checkPack(t)
	tops().checkRead(t)
	for _, x := range []struct {
		top  api.Top
		want uint64
	}{
		{api.Top{}, 0},
		{api.Top{At: 1}, 1},
		{api.Top{Ver: 1}, 4096},
		{api.Top{At: 4095, Ver: api.Wrap - 1}, 1<<52 - 1},
		{api.Top{At: 4096, Ver: api.Wrap}, 0},
		{api.Top{At: 4097, Ver: api.Wrap + 2}, 1 + 2<<12},
		{api.Top{At: -1}, 4095},
		{api.Top{Ver: -1}, (1<<40 - 1) << 12},
		{api.Top{At: math.MinInt, Ver: math.MinInt + 3}, 3 << 12},
	} {
		if got := Top(x.top); got != x.want {
			t.Errorf("Top(%+v) = %d, want %d", x.top, got, x.want)
		}
	}
}

// P3.1, by the chapter's example and by hand.
func TestNext(t *testing.T) {
	last := uint64(1<<40-1) << 12 // the Ver after which it goes round
	for _, x := range []struct {
		w    uint64
		at   int
		want uint64
	}{
		{4101, 7, 8199},
		{4101, 5, 8197},
		{4101, 0, 8192},
		{0, 0, 4096},
		{5, 4097, 4097},
		{5, 4096, 4096},
		{5, -1, 8191},
		{5, math.MinInt, 4096},
		{last - 4096, 3, last + 3},
		{last, 0, 0},
		{last + 4095, 7, 7},
		{last + 7, -1, 4095},
		// What stands above is not read, nor is it kept.
		{1<<52 + 4101, 7, 8199},
		{1<<63 + 4101, 7, 8199},
		{math.MaxUint64, 9, 9},
	} {
		if got := Next(x.w, x.at); got != x.want {
			t.Errorf("Next(%d, %d) = %d, want %d", x.w, x.at, got, x.want)
		}
	}
}

// P3.1: Next has the At that is given, and the Ver after w's, modulo what their bits hold, whatever w and at are.
func TestNextOfEachWord(t *testing.T) {
	for _, n := range edges.Numbers() {
		for _, at := range edges.Numbers() {
			w := uint64(n)
			ver := (w>>12%(1<<40) + 1) % (1 << 40)
			if got, want := Next(w, at), ver<<12+edges.Modulo(at, 12); got != want {
				t.Fatalf("Next(%d, %d) = %d, want %d", w, at, got, want)
			}
		}
	}
}

// P3.2.
func TestPhase(t *testing.T) {
	phases().checkPack(t)
	phases().checkRead(t)
	for _, x := range []struct {
		phase api.Phase
		want  uint64
	}{
		{api.Phase{}, 0},
		{api.Phase{No: 1}, 1},
		{api.Phase{Mode: api.ModeShade}, 1 << 40},
		{api.Phase{Mark: 1}, 1 << 44},
		{api.Phase{List: 1}, 1 << 45},
		{api.Phase{No: 9, Mode: api.ModeFix, Mark: 1, List: 1}, 9 + 8<<40 + 1<<44 + 1<<45},
		{api.Phase{No: api.Wrap - 1, Mode: 15, Mark: 1, List: 1}, 1<<46 - 1},
		{api.Phase{No: api.Wrap, Mode: 16, Mark: 2, List: 2}, 0},
		{api.Phase{No: api.Wrap, Mode: 17}, 1 << 40},
		{api.Phase{No: -1, Mark: -1}, 1<<40 - 1 + 1<<44},
		{api.Phase{Mode: -1, List: -1}, 15<<40 + 1<<45},
	} {
		if got := Phase(x.phase); got != x.want {
			t.Errorf("Phase(%+v) = %d, want %d", x.phase, got, x.want)
		}
	}
}

// P3.3.
func TestBlock(t *testing.T) {
	blocks().checkPack(t)
	blocks().checkRead(t)
	for _, x := range []struct {
		block api.Block
		want  uint64
	}{
		{api.Block{}, 0},
		{api.Block{State: api.BlockUsed}, 1},
		{api.Block{Class: 1}, 4},
		{api.Block{Stamp: 1}, 16},
		{api.Block{Next: 1}, 32},
		{api.Block{State: api.BlockEvac, Class: 2, Stamp: 1, Next: api.MaxBlocks}, 2 + 2<<2 + 1<<4 + 64<<5},
		{api.Block{State: 3, Class: 3, Stamp: 1, Next: 127}, 1<<12 - 1},
		{api.Block{State: 4, Class: 4, Stamp: 2, Next: 128}, 0},
		{api.Block{State: -1, Next: 128}, 3},
		{api.Block{Class: -1, Next: -1}, 3<<2 + 127<<5},
		{api.Block{State: 5, Stamp: -1}, 1 + 1<<4},
	} {
		if got := Block(x.block); got != x.want {
			t.Errorf("Block(%+v) = %d, want %d", x.block, got, x.want)
		}
	}
}

// P3.4: what was packed comes back.
func TestReadAsItWas(t *testing.T) {
	tops().checkBack(t)
	phases().checkBack(t)
	blocks().checkBack(t)
	for b := range 1 << 12 {
		x := api.Block{State: b % 4, Class: b / 4 % 4, Stamp: b / 16 % 2, Next: b / 32}
		if got := OfBlock(Block(x)); got != x {
			t.Fatalf("OfBlock(Block(%+v)) = %+v", x, got)
		}
	}
	for at := range api.MaxWords {
		for _, ver := range []int{0, 1, 1<<32 + 5, api.Wrap - 1} {
			x := api.Top{At: at, Ver: ver}
			if got := OfTop(Top(x)); got != x {
				t.Fatalf("OfTop(Top(%+v)) = %+v", x, got)
			}
		}
	}
	for rest := range 1 << 6 {
		for _, no := range []int{0, 1, 1<<32 + 5, api.Wrap - 1} {
			x := api.Phase{No: no, Mode: rest / 4, Mark: rest / 2 % 2, List: rest % 2}
			if got := OfPhase(Phase(x)); got != x {
				t.Fatalf("OfPhase(Phase(%+v)) = %+v", x, got)
			}
		}
	}
}

// P3.4: Next is another word, also where the same one is first again, and where the Ver goes round.
func TestNextIsAnother(t *testing.T) {
	for _, n := range edges.Numbers() {
		w := uint64(n)
		ats := append(edges.Numbers(), OfTop(w).At, int(w))
		for _, at := range ats {
			if Next(w, at) == w {
				t.Fatalf("Next(%d, %d) is the same word", w, at)
			}
		}
	}
}
