package shake

import (
	"math"
	"slices"
	"testing"

	"flit/api"
	"flit/edges"
	"flit/mem"
	"flit/watch"
)

// before is what is asked for ahead of an Ask.
func before() api.Phase { return api.Phase{No: 99, Mode: 9, Mark: 1, List: 1} }

// P16.2: the first step asks for the phase; then threads are looked at from the first one on, each again and again till it has acknowledged; behind the last one it is done.
func TestAsk(t *testing.T) {
	for _, mode := range modes() {
		for _, q := range phases(mode) {
			for _, threads := range []int{1, 2, 5, api.MaxThreads} {
				p, m := made(t, threads, before())
				l := lookAtAsk(t, p, m, q)
				l.asks()
				for k := range threads {
					l.Looks(k, k, k)
					l.acknowledged(k)
					if k < threads-1 {
						l.Looks(k)
					}
				}
				l.ends(threads - 1)
			}
		}
	}
}

// P16.2: whoever is late, the first thread, one between, or the last one: no thread is passed ahead of its acknowledgement, those that have acknowledged take one step each.
func TestAskOfOneThatIsLate(t *testing.T) {
	q := api.Phase{No: 5, Mode: api.ModeRoots, Mark: 1}
	for _, threads := range []int{1, 2, 3, 7, api.MaxThreads} {
		for late := range threads {
			p, m := made(t, threads, before())
			l := lookAtAsk(t, p, m, q)
			l.asks()
			for k := range threads {
				if k != late {
					l.acknowledged(k)
				}
			}
			l.Looks(watch.UpTo(late)...)
			l.Looks(late, late, late, late, late)
			l.acknowledged(late)
			rest := watch.UpTo(threads)[late:]
			l.Looks(rest[:len(rest)-1]...)
			l.ends(threads - 1)
		}
	}
}

// P16.2: in whichever order the threads acknowledge.
func TestAskOfAnyOrder(t *testing.T) {
	q := api.Phase{No: 5, Mode: api.ModeShade}
	const threads = 4
	orders := 0
	for code := range threads * threads * threads * threads {
		var order []int
		for k := range threads {
			order = append(order, code>>(2*k)%threads)
		}
		if len(slices.Compact(slices.Sorted(slices.Values(order)))) != threads {
			continue
		}
		orders++
		p, m := made(t, threads, before())
		l := lookAtAsk(t, p, m, q)
		l.asks()
		at := 0 // which thread it waits for
		for k, thread := range order {
			l.Looks(at, at)
			l.acknowledged(thread)
			for slices.Contains(order[:k+1], at) && at < threads-1 {
				l.Looks(at)
				at++
			}
		}
		l.ends(threads - 1)
	}
	if orders != 24 {
		t.Errorf("%d orders", orders)
	}
}

// P16.2: a No that all have acknowledged ahead of the first step: that step all the same, and one a thread; so with a No of 0, if their words are 0 from the beginning on.
func TestAskOfOneThatIsAcknowledged(t *testing.T) {
	for _, no := range []int{0, 5, api.Wrap - 1} {
		for threads := 1; threads <= api.MaxThreads; threads++ {
			q := api.Phase{No: no, Mode: api.ModeShade, List: 1}
			p, m := made(t, threads, q)
			l := lookAtAsk(t, p, m, q)
			l.acknowledged(watch.UpTo(threads)...)
			l.asks()
			l.Looks(watch.UpTo(threads - 1)...)
			l.ends(threads - 1)
		}
	}
}

// P16.2: all bits of the word are held against the No: one that tells the whole phase is none that acknowledges it.
func TestAskHoldsAllBits(t *testing.T) {
	for _, no := range []int{0, 5, api.Wrap - 1} {
		q := api.Phase{No: no, Mode: api.ModeShade, Mark: 1}
		p, m := made(t, 2, before())
		l := lookAtAsk(t, p, m, q)
		l.asks()
		l.acknowledged(0)
		l.Looks(0)
		for bit := range 64 {
			l.Stored(api.AtAcks+1, uint64(no)^1<<bit)
			l.Looks(1)
		}
		l.Stored(api.AtAcks+1, watch.Phase(q))
		l.Looks(1)
		l.acknowledged(1)
		l.ends(1)
	}
}

// P16.2: a thread that was passed is not looked at once more; what is asked for meanwhile is not looked at either.
func TestAskDoesNotLookBack(t *testing.T) {
	q := api.Phase{No: 5, Mode: api.ModeShade}
	p, m := made(t, 3, before())
	l := lookAtAsk(t, p, m, q)
	l.asks()
	for k := range 2 {
		l.acknowledged(k)
		l.Looks(k)
		l.Stored(api.AtAcks+k, 4)
	}
	l.Stored(api.AtPhase, watch.Phase(before()))
	l.Looks(2)
	l.acknowledged(2)
	l.ends(2)
}

// P16.2: of the phase's numbers the word has what its bits hold. An acknowledgement is held against the No as it is given: of one that no phase's word holds it is none that a Poll stores.
func TestAskOfOtherNumbers(t *testing.T) {
	for _, n := range edges.Numbers() {
		q := api.Phase{No: n, Mode: n, Mark: n, List: n}
		p, m := made(t, 1, before())
		cut := api.Phase{
			No:   int(edges.Modulo(n, 40)),
			Mode: int(edges.Modulo(n, 4)),
			Mark: int(edges.Modulo(n, 1)),
			List: int(edges.Modulo(n, 1)),
		}
		l := lookAtAsk(t, p, m, q)
		l.Want[api.AtPhase] = watch.Phase(cut)
		l.Step(watch.Store(api.AtPhase), false)
		if cut.No != n {
			l.Stored(api.AtAcks, uint64(cut.No))
			l.Looks(0, 0)
		}
		l.acknowledged(0)
		l.ends(0)
	}
}

// R1: of a plan without threads it is done with its first step; of one with more than there may be it goes on to look at them.
func TestAskOfOtherPlans(t *testing.T) {
	q := api.Phase{No: 5, Mode: api.ModeShade}
	for _, threads := range []int{0, -1, -64, math.MinInt} {
		p, m := made(t, 1, before())
		p.Threads = threads
		l := lookAtAsk(t, p, m, q)
		l.Want[api.AtPhase] = watch.Phase(q)
		l.Last(watch.Store(api.AtPhase), false, api.Out{})
	}
	p, m := made(t, api.MaxThreads, before())
	p.Threads = api.MaxThreads + 6
	l := lookAtAsk(t, p, m, q)
	l.acknowledged(watch.UpTo(p.Threads)...)
	l.asks()
	l.Looks(watch.UpTo(p.Threads - 1)...)
	l.ends(p.Threads - 1)

	p.Threads = math.MaxInt
	l = lookAtAsk(t, p, m, q)
	l.asks()
	l.Looks(watch.UpTo(api.MaxThreads + 6)...)
	l.Looks(api.MaxThreads+6, api.MaxThreads+6)
}

// R1: of a memory that does not have a thread's word it waits, each look being one access, a trap.
func TestAskOfShortMemory(t *testing.T) {
	m, _ := mem.New(api.AtAcks)
	p, _ := made(t, 1, before())
	q := api.Phase{No: 5, Mode: api.ModeShade}
	x := NewAsk(p, q)
	for k := range 9 {
		if x.Step(m) || m.Count() != k+1 || m.Traps() != k {
			t.Errorf("the step %d: it is done, or there are %d accesses, %d traps", k, m.Count(), m.Traps())
		}
	}
	watch.CheckWord(t, m, api.AtPhase, watch.Phase(q))
}

// R6: a new Ask does no access, and a copy of an Ask goes its own way, at each step of it.
func TestAsksCopied(t *testing.T) {
	q := api.Phase{No: 5, Mode: api.ModeShade}
	p, m := made(t, 3, before())
	for k := range 3 {
		m.Store(api.AtAcks+k, 5)
	}
	for steps := range 4 {
		m := m.Clone()
		count := m.Count()
		x := NewAsk(p, q)
		if m.Count() != count {
			t.Error("a new Ask does an access")
		}
		for range steps {
			x.Step(m)
		}
		y, n := *x, m.Clone()
		if k := watch.Run(t, x, m); k != 4-steps {
			t.Errorf("the Ask takes %d more steps", k)
		}
		if k := watch.Run(t, &y, n); k != 4-steps {
			t.Errorf("the copy takes %d more steps", k)
		}
		watch.CheckWords(t, n, watch.Words(m))
		watch.CheckDone(t, x, m)
	}
}

// R1: an Ask that nobody made is done.
func TestAskMadeByNobody(t *testing.T) {
	_, m := made(t, 1, before())
	watch.CheckDone(t, &Ask{}, m)
}

// P16.1, P16.2: the chapter's examples.
func TestExamples(t *testing.T) {
	p, m := made(t, 1, api.Phase{})
	q := api.Phase{No: 1, Mode: api.ModeShade, Mark: 1}
	a := NewAsk(p, q)
	if a.Step(m) || a.Step(m) {
		t.Error("an Ask is done ahead of the acknowledgement")
	}
	x := NewPoll(p, 0, api.Phase{}, 0, api.Roots{})
	if x.Step(m) || !x.Step(m) || !a.Step(m) {
		t.Error("a Poll's two steps, and the Ask's then, are not false, true, true")
	}
	checkTells(t, x, told{own: q})
	watch.CheckWord(t, m, api.AtAcks, 1)
}
