package watch

import (
	"slices"
	"testing"

	"flit/api"
	"flit/head"
	"flit/mem"
	"flit/slot"
	"flit/stamp"
)

// faults counts what it is told.
type faults int

func (f *faults) Helper()               {}
func (f *faults) Errorf(string, ...any) { *f++ }
func (f *faults) Fatalf(string, ...any) { *f++ }

// row does one of its parts a Step, and tells with the last one that it is done; then it may deny that, or go on.
type row struct {
	l              []func(m *mem.Memory)
	denies, goesOn bool
	k              int
}

func (r *row) Step(m *mem.Memory) bool {
	if r.k < len(r.l) {
		r.l[r.k](m)
		r.k++
		return r.k == len(r.l)
	}
	if r.goesOn {
		m.Load(0)
	}
	return !r.denies
}

func made(t *testing.T) *mem.Memory {
	t.Helper()
	m, e := mem.New(8)
	if e != api.OK {
		t.Fatalf("error %d", e)
	}
	for a := range 8 {
		m.Store(a, uint64(a*a))
	}
	return m
}

func storeOne(m *mem.Memory)  { m.Store(1, 5) }
func loadTwo(m *mem.Memory)   { m.Load(2) }
func loadTwice(m *mem.Memory) { m.Load(2); m.Load(2) }
func trap(m *mem.Memory)      { m.Load(8) }
func none(m *mem.Memory)      {}
func swapOne(m *mem.Memory)   { m.CAS(1, 1, 7) }
func swapTwo(m *mem.Memory)   { m.CAS2(2, 4, 9, 7, 8) }

// Words that are reckoned here are those of the layers.
func TestReckonedWords(t *testing.T) {
	if got, want := Top(5, 1), stamp.Top(api.Top{At: 5, Ver: 1}); got != want || got != 4101 {
		t.Errorf("Top: %d, want %d", got, want)
	}
	for _, w := range []uint64{0, 4101, Top(5, 1<<40-1), 0xfff<<52 | 9} {
		if got, want := Behind(w, 7), stamp.Next(w, 7); got != want {
			t.Errorf("Behind of %#x: %#x, want %#x", w, got, want)
		}
	}
	for _, q := range []api.Phase{{}, {No: 3, Mode: 5, Mark: 1}, {No: 1<<40 - 1, Mode: 8, List: 1}, {No: 1, Mode: 15, Mark: 1, List: 1}} {
		if got, want := Phase(q), stamp.Phase(q); got != want {
			t.Errorf("Phase of %v: %#x, want %#x", q, got, want)
		}
		if got := OfPhase(Phase(q) | 0x7ff<<46); got != q {
			t.Errorf("OfPhase of %v: %v", q, got)
		}
	}
	if got, want := Free(2, 96), head.Word(api.Head{Class: 2, Link: 96}); got != want {
		t.Errorf("Free: %d, want %d", got, want)
	}
	if got, want := Object(1, 5, 1), head.Word(api.Head{State: api.CellObject, Class: 1, Count: 5, Mark: 1}); got != want {
		t.Errorf("Object: %d, want %d", got, want)
	}
	if got, want := Grey(1, 5, 1, 96), head.Word(api.Head{State: api.CellObject, Class: 1, Count: 5, Mark: 1, Grey: 1, Link: 96}); got != want {
		t.Errorf("Grey: %d, want %d", got, want)
	}
	if got, want := Moved(1, 5, 1, 96), head.Word(api.Head{State: api.CellObject, Class: 1, Count: 5, Mark: 1, Tag: api.TagMoved, Link: 96}); got != want {
		t.Errorf("Moved: %d, want %d", got, want)
	}
	if got, want := Tagged(1, 5, 1, api.TagStays, 96), head.Word(api.Head{State: api.CellObject, Class: 1, Count: 5, Mark: 1, Tag: api.TagStays, Link: 96}); got != want {
		t.Errorf("Tagged: %d, want %d", got, want)
	}
	if got, want := Wide(1, 5, 96), head.Word(api.Head{State: api.CellWide, Class: 1, Count: 5, Link: 96}); got != want {
		t.Errorf("Wide: %d, want %d", got, want)
	}
	for w := range uint64(1 << 12) {
		w |= 96<<12 | 1<<40
		if got, want := Home(w, 9), head.Moved(w, 9); got != want {
			t.Errorf("Home of %#x: %d, want %d", w, got, want)
		}
		h := head.Of(w)
		if Mark(w) != h.Mark || Tag(w) != h.Tag || Link(w) != h.Link || Count(w) != h.Count {
			t.Errorf("of %#x: Mark %d, Tag %d, Link %d, Count %d", w, Mark(w), Tag(w), Link(w), Count(w))
		}
		for mark := range 2 {
			if got := ToShade(w, mark); got != (h.State == api.CellObject && h.Mark != mark) {
				t.Errorf("ToShade of %#x, %d: %t", w, mark, got)
			}
			h.Mark, h.Grey, h.Link = mark, 1, 0
			if got, want := Shaded(w, mark), head.Word(h); got != want {
				t.Errorf("Shaded of %#x, %d: %#x, want %#x", w, mark, got, want)
			}
			h = head.Of(w)
		}
	}
	for _, v := range []api.Val{{}, {Kind: api.Ref}, {Kind: api.Ref, N: 5}, {Kind: api.Empty}, {Kind: 3, N: 1<<61 - 1}} {
		if got, want := Field(v), slot.Word(v); got != want {
			t.Errorf("Field of %v: %d, want %d", v, got, want)
		}
		if got := Value(slot.Freeze(slot.Word(v))); got != v {
			t.Errorf("Value of %v: %v", v, got)
		}
		if got := Refers(v); got != (v == api.Val{Kind: api.Ref, N: 5}) {
			t.Errorf("Refers of %v: %t", v, got)
		}
	}
	if got, want := Block(2, 1, 1, 4), stamp.Block(api.Block{State: 2, Class: 1, Stamp: 1, Next: 4}); got != want || got != 150 {
		t.Errorf("Block: %d, want %d", got, want)
	}
}

// A Step is what it must be, or that is told.
func TestStep(t *testing.T) {
	for _, x := range []struct {
		name string
		do   func(m *mem.Memory)
		want api.Access
		done bool
		ok   bool
	}{
		{"a Store", storeOne, Store(1), true, true},
		{"a Load", loadTwo, Load(2), true, true},
		{"a CAS", swapOne, CAS(1, true), true, true},
		{"a CAS2", swapTwo, CAS2(2, true), true, true},
		{"of another Op", storeOne, Load(1), true, false},
		{"at another place", loadTwo, Load(1), true, false},
		{"of another answer", swapOne, CAS(1, false), true, false},
		{"of two words, and of another answer", swapTwo, CAS2(2, false), true, false},
		{"not done", storeOne, Store(1), false, false},
		{"two accesses", loadTwice, Load(2), true, false},
		{"no access", none, Load(2), true, false},
		{"a trap", trap, api.Access{Op: 1, At: 8}, true, false},
	} {
		var f faults
		m := made(t)
		Step(&f, &row{l: []func(m *mem.Memory){x.do}}, m, x.want, x.done)
		if (f == 0) != x.ok {
			t.Errorf("%s: %d faults", x.name, f)
		}
	}
}

// A machine that is done does nothing, and tells true, or that is told.
func TestCheckDone(t *testing.T) {
	for _, x := range []struct {
		name string
		r    row
		ok   bool
	}{
		{"done", row{}, true},
		{"denies it", row{denies: true}, false},
		{"goes on", row{goesOn: true}, false},
		{"stores", row{l: []func(m *mem.Memory){storeOne}}, false},
	} {
		var f faults
		CheckDone(&f, &x.r, made(t))
		if (f == 0) != x.ok {
			t.Errorf("%s: %d faults", x.name, f)
		}
	}
}

// Run tells how many steps there were, and whether there is no end.
func TestRun(t *testing.T) {
	var f faults
	if n := Run(&f, &row{l: []func(m *mem.Memory){storeOne, loadTwo, swapOne}}, made(t)); n != 3 || f != 0 {
		t.Errorf("%d steps, %d faults", n, f)
	}
	if n := Run(&f, &row{denies: true}, made(t)); n != 0 || f != 1 {
		t.Errorf("%d steps, %d faults", n, f)
	}
}

// Words are those that there are; asking is not counted.
func TestWords(t *testing.T) {
	m := made(t)
	n := m.Count()
	l := Words(m)
	var f faults
	CheckWords(&f, m, l)
	CheckWord(&f, m, 3, 9)
	if len(l) != 8 || l[3] != 9 || Word(m, 3) != 9 || f != 0 || m.Count() != n {
		t.Errorf("words %d, %d faults, %d accesses", l, f, m.Count()-n)
	}
	CheckWord(&f, m, 3, 8)
	CheckWords(&f, m, l[:7])
	l[7]++
	CheckWords(&f, m, l)
	if f != 3 {
		t.Errorf("%d faults", f)
	}
}

// The numbers below n rise from nought on.
func TestUpTo(t *testing.T) {
	if l := UpTo(3); !slices.Equal(l, []int{0, 1, 2}) || len(UpTo(0)) != 0 {
		t.Errorf("%d", l)
	}
}
