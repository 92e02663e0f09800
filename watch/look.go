package watch

import (
	"slices"

	"flit/api"
	"flit/mem"
)

// Accessor is a machine that accesses a field.
type Accessor interface {
	Machine
	Hit() bool
	Result() api.Out
}

// Quiet is a machine without hits, of which nothing is told.
type Quiet struct{ Machine }

func (Quiet) Hit() bool       { return false }
func (Quiet) Result() api.Out { return api.Out{} }

// Look is an Accessor of which each step is looked at: which access it does, whether it is a hit, what is told, and what all words are behind it.
type Look struct {
	T    Teller
	M    *mem.Memory
	X    Accessor
	Want []uint64 // what all words must be
}

// LookAt begins with an Accessor that has done no step: nothing is told, and there was no hit.
func LookAt(t Teller, m *mem.Memory, x Accessor) *Look {
	t.Helper()
	l := &Look{t, m, x, Words(m)}
	l.Told(false, api.Out{})
	return l
}

// AtOnce is an Accessor that is done without a step, with that.
func AtOnce(t Teller, m *mem.Memory, x Accessor, out api.Out) {
	t.Helper()
	l := &Look{t, m, x, Words(m)}
	count := m.Count()
	l.Told(false, out)
	CheckDone(t, x, m)
	l.Told(false, out)
	CheckWords(t, m, l.Want)
	if m.Count() != count {
		t.Errorf("%d accesses", m.Count()-count)
	}
}

// Told asks what is told now.
func (l *Look) Told(hit bool, out api.Out) {
	l.T.Helper()
	if got := l.X.Hit(); got != hit {
		l.T.Errorf("Hit is %t, want %t", got, hit)
	}
	if got := l.X.Result(); got != out {
		l.T.Errorf("Result is %v, want %v", got, out)
	}
}

// Step is one behind which it is not done.
func (l *Look) Step(a api.Access, hit bool) {
	l.T.Helper()
	Step(l.T, l.X, l.M, a, false)
	CheckWords(l.T, l.M, l.Want)
	l.Told(hit, api.Out{})
}

// Last is the step behind which it is done, with that.
func (l *Look) Last(a api.Access, hit bool, out api.Out) {
	l.T.Helper()
	Step(l.T, l.X, l.M, a, true)
	CheckWords(l.T, l.M, l.Want)
	l.Told(hit, out)
	CheckDone(l.T, l.X, l.M)
	l.Told(hit, out)
}

// Stored changes a word from outside, between two steps.
func (l *Look) Stored(a int, w uint64) {
	l.M.Store(a, w)
	l.Want[a] = w
}

// Stores is a Write's last step.
func (l *Look) Stores(field int, v api.Val) {
	l.T.Helper()
	l.Want[field] = Field(v)
	l.Last(Store(field), true, api.Out{})
}

// Swaps is the last step of a Swap that is done.
func (l *Look) Swaps(field int, v api.Val) {
	l.T.Helper()
	l.Want[field] = Field(v)
	l.Last(CAS(field, true), true, api.Out{Yes: true})
}

// Fails is a CAS that finds another word.
func (l *Look) Fails(a int) {
	l.T.Helper()
	l.Step(CAS(a, false), false)
}

// Direct is the steps of layer 12's Direct of the object at that address, with Canon and without Shade, to the end.
func (l *Look) Direct(at int, r api.Req, fix bool) {
	l.T.Helper()
	field := at + 1 + r.Field
	v := Value(l.Want[field])
	switch {
	case r.Op == api.Write:
		l.Stores(field, r.New)
	case r.Op == api.Swap:
		l.swap(field, v, r)
	case fix && Refers(v):
		l.Step(Load(field), true)
		l.Last(Load(v.N), false, api.Out{V: api.Val{Kind: api.Ref, N: l.Home(v.N)}})
	default:
		l.Last(Load(field), true, api.Out{V: v})
	}
}

// swap is that of a field that has v: two references are the same, if they are one object's.
func (l *Look) swap(field int, v api.Val, r api.Req) {
	l.T.Helper()
	both := Refers(v) && Refers(r.Exp)
	if v != r.Exp && !both {
		l.Last(Load(field), true, api.Out{})
		return
	}
	l.Step(Load(field), true)
	if v != r.Exp {
		l.Step(Load(v.N), false)
		if l.Home(v.N) != l.Home(r.Exp.N) {
			l.Last(Load(r.Exp.N), false, api.Out{})
			return
		}
		l.Step(Load(r.Exp.N), false)
	}
	l.Swaps(field, r.New)
}

// Shaded is the steps of layer 11's Shade of what stands at that address, none of which is the last one: five, or one, if it is no object or has the mark.
func (l *Look) Shaded(at, mark int) {
	l.T.Helper()
	l.Step(Load(at), false)
	w := l.Want[at]
	if !ToShade(w, mark) {
		return
	}
	w = Shaded(w, mark)
	l.Want[at] = w
	l.Step(CAS(at, true), false)
	l.Listed(at)
}

// Listed is those behind the CAS that gives it the mark.
func (l *Look) Listed(at int) {
	l.T.Helper()
	list := l.Want[api.AtGrey]
	l.Step(Load(api.AtGrey), false)
	l.Want[at] = l.Want[at]%(1<<12) | list%4096<<12
	l.Step(Store(at), false)
	l.Want[api.AtGrey] = Behind(list, at)
	l.Step(CAS(api.AtGrey, true), false)
}

// Taken is the steps of layer 11's Next of the object that is first, none of which is the last one: which object it is.
func (l *Look) Taken() int {
	l.T.Helper()
	list := l.Want[api.AtGrey]
	at := int(list % 4096)
	l.Step(Load(api.AtGrey), false)
	l.Step(Load(at), false)
	w := l.Want[at] % (1 << 24)
	l.Want[api.AtGrey] = Behind(list, Link(w))
	l.Step(CAS(api.AtGrey, true), false)
	l.Want[at] = w % (1 << 12) &^ (1 << 8)
	l.Step(Store(at), false)
	return at
}

// Asks is the first step of layer 16's Ask, if that is not the last one.
func (l *Look) Asks(q api.Phase) {
	l.T.Helper()
	l.Want[api.AtPhase] = Phase(q)
	l.Step(Store(api.AtPhase), false)
}

// Looks is a look at each of these threads, none of which is the last step.
func (l *Look) Looks(threads ...int) {
	l.T.Helper()
	for _, k := range threads {
		l.Step(Load(api.AtAcks+k), false)
	}
}

// Acknowledged lets each of these threads have acknowledged a phase of that No.
func (l *Look) Acknowledged(no int, threads ...int) {
	for _, k := range threads {
		l.Stored(api.AtAcks+k, uint64(no))
	}
}

// Home is where the object is that stands, or stood, at that address.
func (l *Look) Home(at int) int { return Home(l.Want[at], at) }

// Alike steps two Accessors, each on a memory of its own: they must do, and tell, the same.
func Alike(t Teller, m *mem.Memory, x, y Accessor) {
	t.Helper()
	n := m.Clone()
	for k := range most {
		count := m.Count()
		got, want := x.Step(m), y.Step(n)
		if got != want || x.Hit() != y.Hit() || x.Result() != y.Result() {
			t.Errorf("step %d: %t, %t, %v; the other one: %t, %t, %v", k, got, x.Hit(), x.Result(), want, y.Hit(), y.Result())
			return
		}
		if m.Count() != count+1 || m.Traps() != n.Traps() || !slices.Equal(m.Take(), n.Take()) {
			t.Errorf("step %d: the accesses are others", k)
			return
		}
		if got {
			CheckWords(t, m, Words(n))
			CheckDone(t, x, m)
			return
		}
	}
	t.Errorf("they are not done")
}

// CheckCopies copies an Accessor, of those that begin makes, behind each of its steps: the copy goes its own way, also if the other one has done the same steps already.
func CheckCopies(t Teller, m *mem.Memory, begin func() Accessor, copyOf func(x Accessor) Accessor) {
	t.Helper()
	all := Run(t, begin(), m.Clone())
	for steps := range all {
		m := m.Clone()
		x := begin()
		for range steps {
			x.Step(m)
		}
		y, n := copyOf(x), m.Clone()
		k := Run(t, x, m)
		if y.Result() != (api.Out{}) {
			t.Errorf("the copy tells %v behind %d steps", y.Result(), steps)
		}
		if Run(t, y, n) != k || k != all-steps || y.Result() != x.Result() || y.Hit() != x.Hit() {
			t.Errorf("the copy tells %v, want %v", y.Result(), x.Result())
		}
		CheckWords(t, n, Words(m))
	}
}
