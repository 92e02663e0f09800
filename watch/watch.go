// Package watch has what the tests of machines share: steps of which each access is looked at, the steps of a chapter beside which a machine is held, all orders of steps, scenes in which objects move while they are accessed, words that are asked without being counted, words that are reckoned without the layers that make them, and blocks and lists as a memory has them. No layer stands on it.
package watch

import (
	"slices"

	"flit/api"
	"flit/mem"
)

// most is how many steps a machine may take in Run.
const most = 999

// Machine does its work step by step.
type Machine interface {
	Step(m *mem.Memory) bool
}

// Teller is told what is wrong: a *testing.T.
type Teller interface {
	Helper()
	Errorf(format string, args ...any)
	Fatalf(format string, args ...any)
}

// Top is the head of a list as a word.
func Top(first, version int) uint64 { return uint64(first) + uint64(version)<<12 }

// Behind is the word that takes the place of the head w of a list.
func Behind(w uint64, first int) uint64 { return Top(first, int((w>>12+1)%(1<<40))) }

// Phase is a phase as a word, OfPhase the phase that a word tells.
func Phase(q api.Phase) uint64 {
	return uint64(q.No) + uint64(q.Mode)<<40 + uint64(q.Mark)<<44 + uint64(q.List)<<45
}

func OfPhase(w uint64) api.Phase {
	return api.Phase{No: int(w % (1 << 40)), Mode: int(w >> 40 % 16), Mark: int(w >> 44 % 2), List: int(w >> 45 % 2)}
}

// Free is the header of a free cell as a word.
func Free(class, link int) uint64 { return uint64(class)<<2 + uint64(link)<<12 }

// Object is the header of an object as a word.
func Object(class, count, mark int) uint64 {
	return api.CellObject + uint64(class)<<2 + uint64(count)<<4 + uint64(mark)<<7
}

// Grey is the header of an object that is grey, as a word.
func Grey(class, count, mark, link int) uint64 {
	return Object(class, count, mark) + 1<<8 + uint64(link)<<12
}

// Shaded is the header of an object whose header was w, behind a Shade's CAS that gives it the mark.
func Shaded(w uint64, mark int) uint64 {
	return w%(1<<12)&^(1<<7) | uint64(mark)<<7 | 1<<8
}

// Moved is the header of an object that was moved to link, as a word.
func Moved(class, count, mark, link int) uint64 {
	return Tagged(class, count, mark, api.TagMoved, link)
}

// Tagged is the header of an object with any tag, as a word.
func Tagged(class, count, mark, tag, link int) uint64 {
	return Object(class, count, mark) + uint64(tag)<<9 + uint64(link)<<12
}

// Wide is the header of a wide object of an object of so many fields, whose final copy is link, as a word.
func Wide(class, count, link int) uint64 {
	return api.CellWide + uint64(class)<<2 + uint64(count)<<4 + uint64(link)<<12
}

// Mark, Tag, Link and Count are those of a header, of its word.
func Mark(w uint64) int  { return int(w >> 7 % 2) }
func Tag(w uint64) int   { return int(w >> 9 % 8) }
func Link(w uint64) int  { return int(w >> 12 % 4096) }
func Count(w uint64) int { return int(w >> 4 % 8) }

// ToShade tells whether an object whose header is w is given that mark by a Shade.
func ToShade(w uint64, mark int) bool { return w%4 == api.CellObject && Mark(w) != mark }

// Home is where the object is whose header at that address is w.
func Home(w uint64, at int) int {
	if w%4 == api.CellObject && Tag(w) == api.TagMoved {
		return Link(w)
	}
	return at
}

// Field is what a field has as a word, if its number is one of a field's.
func Field(v api.Val) uint64 { return uint64(v.Kind) + uint64(v.N)<<3 }

// Value is what a field has, of its word.
func Value(w uint64) api.Val { return api.Val{Kind: int(w % 4), N: int(w >> 3)} }

// Refers tells whether v is a reference that is not nil.
func Refers(v api.Val) bool { return v.Kind == api.Ref && v.N != 0 }

// Block is what the table says of a block, as a word.
func Block(state, class, stamp, next int) uint64 {
	return uint64(state) + uint64(class)<<2 + uint64(stamp)<<4 + uint64(next)<<5
}

// Load is an access that is one, and no trap.
func Load(a int) api.Access { return api.Access{Op: 1, At: a, OK: true} }

// Store is such an access.
func Store(a int) api.Access { return api.Access{Op: 2, At: a, OK: true} }

// CAS is an access that is one, and done or not.
func CAS(a int, done bool) api.Access { return api.Access{Op: 3, At: a, OK: done} }

// CAS2 is such an access of two words.
func CAS2(a int, done bool) api.Access { return api.Access{Op: 4, At: a, OK: done} }

// Words are those of m, asked of a clone, so that m does not count it.
func Words(m *mem.Memory) []uint64 {
	c := m.Clone()
	l := make([]uint64, c.Len())
	for a := range l {
		l[a] = c.Load(a)
	}
	return l
}

// Word is one of m, asked likewise.
func Word(m *mem.Memory, a int) uint64 { return m.Clone().Load(a) }

// UpTo are the numbers below n.
func UpTo(n int) []int {
	l := make([]int, n)
	for k := range l {
		l[k] = k
	}
	return l
}

// CheckWord tells if the word a is not the one that it must be.
func CheckWord(t Teller, m *mem.Memory, a int, want uint64) {
	t.Helper()
	if got := Word(m, a); got != want {
		t.Errorf("the word %d is %#x, want %#x", a, got, want)
	}
}

// CheckWords tells the first of all words that is not the one that it must be.
func CheckWords(t Teller, m *mem.Memory, want []uint64) {
	t.Helper()
	got := Words(m)
	if len(got) != len(want) {
		t.Errorf("there are %d words, want %d", len(got), len(want))
		return
	}
	for a := range got {
		if got[a] != want[a] {
			t.Errorf("the word %d is %#x, want %#x", a, got[a], want[a])
			return
		}
	}
}

// Step does one Step, which must tell done, and do this access alone.
func Step(t Teller, x Machine, m *mem.Memory, want api.Access, done bool) {
	t.Helper()
	n, traps := m.Count(), m.Traps()
	m.Take()
	if got := x.Step(m); got != done {
		t.Errorf("Step tells %t, want %t", got, done)
	}
	if m.Count() != n+1 || m.Traps() != traps {
		t.Errorf("Step: %d accesses, %d traps", m.Count()-n, m.Traps()-traps)
	}
	if got := m.Take(); !slices.Equal(got, []api.Access{want}) {
		t.Errorf("Step: accesses %v, want %v", got, want)
	}
}

// CheckDone steps on: a machine that is done does nothing, and tells true.
func CheckDone(t Teller, x Machine, m *mem.Memory) {
	t.Helper()
	n, before := m.Count(), Words(m)
	for range 5 {
		if !x.Step(m) {
			t.Errorf("Step of a machine that is done tells false")
		}
	}
	if m.Count() != n || !slices.Equal(Words(m), before) {
		t.Errorf("Step of a machine that is done does something")
	}
}

// Run does a machine's steps till it is done: how many it took (0: it does not end).
func Run(t Teller, x Machine, m *mem.Memory) int {
	t.Helper()
	for n := 1; n <= most; n++ {
		if x.Step(m) {
			return n
		}
	}
	t.Errorf("the machine does not end in %d steps", most)
	return 0
}
