package watch

import (
	"flit/api"
	"flit/mem"
)

// Accessor is a machine that accesses a field.
type Accessor interface {
	Machine
	Hit() bool
	Result() api.Out
}

// Look is an Accessor of which each step is looked at: which access it does, whether it is a hit, what is told, and what all words are behind it.
type Look struct {
	T    Teller
	M    *mem.Memory
	X    Accessor
	Want []uint64 // what all words must be
}

// LookAt begins with an Accessor that has done no step: nothing is told, and there was no hit.
func LookAt(t Teller, m *mem.Memory, x Accessor) *Look {
	t.Helper()
	l := &Look{t, m, x, Words(m)}
	l.Told(false, api.Out{})
	return l
}

// AtOnce is an Accessor that is done without a step, with that.
func AtOnce(t Teller, m *mem.Memory, x Accessor, out api.Out) {
	t.Helper()
	l := &Look{t, m, x, Words(m)}
	count := m.Count()
	l.Told(false, out)
	CheckDone(t, x, m)
	l.Told(false, out)
	CheckWords(t, m, l.Want)
	if m.Count() != count {
		t.Errorf("%d accesses", m.Count()-count)
	}
}

// Told asks what is told now.
func (l *Look) Told(hit bool, out api.Out) {
	l.T.Helper()
	if got := l.X.Hit(); got != hit {
		l.T.Errorf("Hit is %t, want %t", got, hit)
	}
	if got := l.X.Result(); got != out {
		l.T.Errorf("Result is %v, want %v", got, out)
	}
}

// Step is one behind which it is not done.
func (l *Look) Step(a api.Access, hit bool) {
	l.T.Helper()
	Step(l.T, l.X, l.M, a, false)
	CheckWords(l.T, l.M, l.Want)
	l.Told(hit, api.Out{})
}

// Last is the step behind which it is done, with that.
func (l *Look) Last(a api.Access, hit bool, out api.Out) {
	l.T.Helper()
	Step(l.T, l.X, l.M, a, true)
	CheckWords(l.T, l.M, l.Want)
	l.Told(hit, out)
	CheckDone(l.T, l.X, l.M)
	l.Told(hit, out)
}

// Stored changes a word from outside, between two steps.
func (l *Look) Stored(a int, w uint64) {
	l.M.Store(a, w)
	l.Want[a] = w
}

// Stores is a Write's last step.
func (l *Look) Stores(field int, v api.Val) {
	l.T.Helper()
	l.Want[field] = Field(v)
	l.Last(Store(field), true, api.Out{})
}

// Swaps is the last step of a Swap that is done.
func (l *Look) Swaps(field int, v api.Val) {
	l.T.Helper()
	l.Want[field] = Field(v)
	l.Last(CAS(field, true), true, api.Out{Yes: true})
}

// Fails is a CAS that finds another word.
func (l *Look) Fails(a int) {
	l.T.Helper()
	l.Step(CAS(a, false), false)
}
