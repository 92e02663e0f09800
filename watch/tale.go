package watch

import (
	"slices"

	"flit/api"
	"flit/mem"
)

// Work is what a chapter says of a machine, as one function that does access behind access.
type Work func(t *Tale) api.Out

// Tale is where a work stands behind the accesses that have been answered so far. It hangs on these answers alone: so others may come in between, and a copy of the answers goes its own way.
type Tale struct {
	Next func(m *mem.Memory) uint64 // does the next access, and answers for it; nil: the work is done
	Hit  bool                       // whether the last access was marked as a hit
	Out  api.Out                    // what came of it; zero, till it is done

	met  []uint64
	told int
}

// unmet is what a work breaks off with at an access that has not been answered.
type unmet struct{}

// Tell does a work from its beginning on, with what its accesses so far answered.
func Tell(w Work, met []uint64) *Tale {
	t := &Tale{met: met}
	func() {
		defer func() {
			if e := recover(); e != nil && e != any(unmet{}) {
				panic(e)
			}
		}()
		t.Out = w(t)
	}()
	return t
}

func (t *Tale) access(do func(m *mem.Memory) uint64) uint64 {
	if t.told == len(t.met) {
		t.Next = do
		panic(unmet{})
	}
	t.told++
	t.Hit = false
	return t.met[t.told-1]
}

// Answered is how many of the accesses so far have been answered.
func (t *Tale) Answered() int { return t.told }

// Load is an access of a work, as Store, CAS and CAS2 are.
func (t *Tale) Load(a int) uint64 {
	return t.access(func(m *mem.Memory) uint64 { return m.Load(a) })
}

func (t *Tale) Store(a int, w uint64) {
	t.access(func(m *mem.Memory) uint64 {
		m.Store(a, w)
		return 0
	})
}

func (t *Tale) CAS(a int, old, w uint64) bool {
	return t.asks(func(m *mem.Memory) bool { return m.CAS(a, old, w) })
}

func (t *Tale) CAS2(a int, old0, old1, w0, w1 uint64) bool {
	return t.asks(func(m *mem.Memory) bool { return m.CAS2(a, old0, old1, w0, w1) })
}

// asks is an access that is done or not.
func (t *Tale) asks(do func(m *mem.Memory) bool) bool {
	return t.access(func(m *mem.Memory) uint64 {
		if do(m) {
			return 1
		}
		return 0
	}) == 1
}

// Shade is the steps of layer 11's Shade.
func (t *Tale) Shade(at, mark int) {
	if at == 0 {
		return
	}
	var h uint64
	for done := false; !done; {
		w := t.Load(at)
		if !ToShade(w, mark) {
			return
		}
		h = Shaded(w, mark)
		done = t.CAS(at, w, h)
	}
	for done := false; !done; {
		list := t.Load(api.AtGrey)
		t.Store(at, h|list%4096<<12)
		done = t.CAS(api.AtGrey, list, Behind(list, at))
	}
}

// TakeGrey is the steps of layer 11's Next, and what that tells.
func (t *Tale) TakeGrey() (at, count int) {
	for {
		list := t.Load(api.AtGrey)
		at = int(list % 4096)
		if at == 0 {
			return 0, 0
		}
		w := t.Load(at)
		if t.CAS(api.AtGrey, list, Behind(list, Link(w))) {
			t.Store(at, w%(1<<12)&^(1<<8))
			return at, Count(w)
		}
	}
}

// Ask is the steps of layer 16's Ask.
func (t *Tale) Ask(threads int, q api.Phase) {
	t.Store(api.AtPhase, Phase(q))
	t.Wait(threads, q.No)
}

// Wait is those behind the first one.
func (t *Tale) Wait(threads, no int) {
	for k := range threads {
		for t.Load(api.AtAcks+k) != uint64(no) {
		}
	}
}

// Direct is the steps of layer 12's Direct that does not shade.
func (t *Tale) Direct(base int, r api.Req, canon, fix bool) api.Out {
	field := base + 1 + r.Field
	switch r.Op {
	case api.Read:
		v := Value(t.Load(field))
		t.Hit = true
		if fix && Refers(v) {
			v.N = t.home(v.N)
		}
		return api.Out{V: v}
	case api.Write:
		t.Store(field, Field(r.New))
		t.Hit = true
	case api.Swap:
		return t.swap(field, r, canon)
	}
	return api.Out{}
}

func (t *Tale) swap(field int, r api.Req, canon bool) api.Out {
	for {
		w := t.Load(field)
		t.Hit = true
		v := Value(w)
		same := v == r.Exp
		if !same && canon && Refers(v) && Refers(r.Exp) {
			a, b := t.home(v.N), t.home(r.Exp.N)
			same = a == b
		}
		if !same {
			return api.Out{}
		}
		if t.CAS(field, w, Field(r.New)) {
			t.Hit = true
			return api.Out{Yes: true}
		}
	}
}

func (t *Tale) home(at int) int { return Home(t.Load(at), at) }

// Beside is an Accessor that is held against its work at each step.
type Beside struct {
	X    Accessor
	Work Work
	Met  []uint64 // what its accesses so far answered
}

// Step does one of X: which access that was, whether it is done now, and what is wrong with it, or nothing.
func (b *Beside) Step(m *mem.Memory) (did api.Access, done bool, wrong string) {
	now, want := Tell(b.Work, b.Met), m.Clone()
	if now.Next == nil {
		return did, done, "there is no step to do"
	}
	m.Take()
	want.Take()
	b.Met = append(slices.Clip(b.Met), now.Next(want))
	done = b.X.Step(m)
	then, l := Tell(b.Work, b.Met), m.Take()
	if len(l) == 1 {
		did = l[0]
	}
	switch {
	case !slices.Equal(l, want.Take()):
		wrong = "it is another access"
	case !slices.Equal(Words(m), Words(want)):
		wrong = "it leaves other words"
	case done != (then.Next == nil):
		wrong = "it tells something else of being done"
	case b.X.Hit() != then.Hit:
		wrong = "Hit is another one"
	case b.X.Result() != then.Out:
		wrong = "Result is another one"
	}
	return did, done, wrong
}
