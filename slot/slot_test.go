package slot

import (
	"math"
	"testing"

	"flit/api"
	"flit/edges"
)

// words have each pattern of the low bits, below each number.
func words() []uint64 {
	l := []uint64{math.MaxUint64}
	for _, n := range edges.Numbers() {
		for low := range uint64(8) {
			l = append(l, uint64(n)&^7|low)
		}
	}
	return l
}

// P1.1, by the chapter's examples and by hand.
func TestWord(t *testing.T) {
	for _, x := range []struct {
		v    api.Val
		want uint64
	}{
		{api.Val{Kind: api.Ref, N: 5}, 41},
		{api.Val{Kind: api.Scalar, N: -1}, math.MaxUint64 - 7},
		{api.Val{}, 0},
		{api.Val{Kind: api.Ref}, 1},
		{api.Val{Kind: api.Empty}, 2},
		{api.Val{Kind: 3}, 3},
		{api.Val{N: 1}, 8},
		{api.Val{N: api.MaxScalar}, 1 << 43},
		{api.Val{Kind: 3, N: 1<<61 - 1}, math.MaxUint64 - 4},
		// What does not fit.
		{api.Val{Kind: 4}, 0},
		{api.Val{Kind: 5, N: 1 << 61}, 1},
		{api.Val{Kind: api.Empty, N: 1<<61 + 2}, 18},
		{api.Val{Kind: math.MaxInt, N: math.MaxInt}, math.MaxUint64 - 4},
		// What is below 0.
		{api.Val{Kind: -1}, 3},
		{api.Val{Kind: -4}, 0},
		{api.Val{Kind: -7, N: -2}, math.MaxUint64 - 14},
		{api.Val{N: -(1 << 61)}, 0},
		{api.Val{N: -(1 << 61) + 1}, 8},
		{api.Val{Kind: math.MinInt, N: math.MinInt}, 0},
	} {
		if got := Word(x.v); got != x.want {
			t.Errorf("Word(%v) = %d, want %d", x.v, got, x.want)
		}
	}
}

// P1.1, held against a modulo by division.
func TestWordIsModulo(t *testing.T) {
	for _, k := range edges.Numbers() {
		for _, n := range edges.Numbers() {
			want := edges.Modulo(k, 2) + 8*edges.Modulo(n, 61)
			if got := Word(api.Val{Kind: k, N: n}); got != want {
				t.Fatalf("Word({%d, %d}) = %d, want %d", k, n, got, want)
			}
		}
	}
}

// P1.1, by the chapter's examples and by hand.
func TestOf(t *testing.T) {
	for _, x := range []struct {
		w    uint64
		want api.Val
	}{
		{41, api.Val{Kind: api.Ref, N: 5}},
		{45, api.Val{Kind: api.Ref, N: 5}},
		{0, api.Val{}},
		{2, api.Val{Kind: api.Empty}},
		{3, api.Val{Kind: 3}},
		{4, api.Val{}},
		{8, api.Val{N: 1}},
		{1 << 63, api.Val{N: 1 << 60}},
		{math.MaxUint64 - 7, api.Val{N: 1<<61 - 1}},
		{math.MaxUint64, api.Val{Kind: 3, N: 1<<61 - 1}},
	} {
		if got := Of(x.w); got != x.want {
			t.Errorf("Of(%d) = %v, want %v", x.w, got, x.want)
		}
	}
}

// P1.1: the parts are in their bounds, and make up the word again.
func TestOfHasAllOfTheWord(t *testing.T) {
	for _, w := range words() {
		v := Of(w)
		if v.Kind < 0 || v.Kind > 3 || v.N < 0 || v.N > 1<<61-1 {
			t.Fatalf("Of(%d) = %v is out of bounds", w, v)
		}
		if sum := uint64(v.Kind) + w/4%2*4 + uint64(v.N)*8; sum != w {
			t.Fatalf("Of(%d) = %v, which comes to %d", w, v, sum)
		}
	}
}

// P1.2, by the chapter's examples and by hand.
func TestFreezeAndThaw(t *testing.T) {
	for _, x := range []struct {
		w            uint64
		frozen       bool
		freeze, thaw uint64
	}{
		{41, false, 45, 41},
		{45, true, 45, 41},
		{0, false, 4, 0},
		{4, true, 4, 0},
		{3, false, 7, 3},
		{8, false, 12, 8},
		{math.MaxUint64, true, math.MaxUint64, math.MaxUint64 - 4},
		{math.MaxUint64 - 4, false, math.MaxUint64, math.MaxUint64 - 4},
	} {
		if got := Frozen(x.w); got != x.frozen {
			t.Errorf("Frozen(%d) = %v", x.w, got)
		}
		if got := Freeze(x.w); got != x.freeze {
			t.Errorf("Freeze(%d) = %d, want %d", x.w, got, x.freeze)
		}
		if got := Thaw(x.w); got != x.thaw {
			t.Errorf("Thaw(%d) = %d, want %d", x.w, got, x.thaw)
		}
	}
}

// P1.2: of w alone the bit 2 changes, and what is so already stays as it is.
func TestFrozenIsOneBit(t *testing.T) {
	for _, w := range words() {
		is := w/4%2 == 1
		frozen, thawed := w, w
		if is {
			thawed -= 4
		} else {
			frozen += 4
		}
		if Frozen(w) != is || Freeze(w) != frozen || Thaw(w) != thawed {
			t.Fatalf("of %d: %v, %d, %d", w, Frozen(w), Freeze(w), Thaw(w))
		}
		if !Frozen(Freeze(w)) || Frozen(Thaw(w)) || Freeze(Freeze(w)) != frozen || Thaw(Thaw(w)) != thawed {
			t.Fatalf("of %d, done twice", w)
		}
	}
}

// P1.1 and P1.3: a value that fits comes back, and its word is not frozen.
func TestOfOfWord(t *testing.T) {
	for k := range 4 {
		for _, n := range edges.Numbers() {
			v := api.Val{Kind: k, N: n}
			if Frozen(Word(v)) {
				t.Fatalf("Word(%v) is frozen", v)
			}
			if got := Of(Word(v)); n >= 0 && n < 1<<61 && got != v {
				t.Fatalf("Of(Word(%v)) = %v", v, got)
			}
		}
	}
}

// P1.3: what a word tells does not hang on whether it is frozen.
func TestOfOfFrozen(t *testing.T) {
	for _, w := range words() {
		if v := Of(w); Of(Freeze(w)) != v || Of(Thaw(w)) != v {
			t.Fatalf("Of(%d) = %v, frozen %v, thawed %v", w, v, Of(Freeze(w)), Of(Thaw(w)))
		}
	}
}
