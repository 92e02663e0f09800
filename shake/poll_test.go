package shake

import (
	"math"
	"testing"

	"flit/api"
	"flit/edges"
	"flit/mem"
	"flit/watch"
)

// modes are all that a phase's word may have; those from 9 on are none.
func modes() []int { return watch.UpTo(16) }

// phases are those of a mode, with each Mark and List, and some Nos.
func phases(mode int) []api.Phase {
	var l []api.Phase
	for _, no := range []int{0, 1, 77, api.Wrap - 1} {
		for bits := range 4 {
			l = append(l, api.Phase{No: no, Mode: mode, Mark: bits & 1, List: bits >> 1})
		}
	}
	return l
}

// other is a phase with another No, and else like q.
func other(q api.Phase) api.Phase {
	q.No = (q.No + 1) % api.Wrap
	return q
}

// P16.1: a Poll that finds the No of its own phase is done with one step: nothing changes, and it tells what was given, whatever the Mode, the Mark and the List are.
func TestPollOfItsOwnPhase(t *testing.T) {
	for _, mode := range modes() {
		for _, q := range phases(mode) {
			for _, own := range []api.Phase{
				q,
				{No: q.No, Mode: 15 - mode, Mark: 1 - q.Mark, List: 1 - q.List},
				{No: q.No, Mode: -1, Mark: 9, List: math.MinInt},
			} {
				for _, r := range someRoots() {
					p, m := made(t, 2, q)
					l := lookAt(t, p, m, 1, told{own, alpha, r})
					l.end(watch.Load(api.AtPhase))
				}
			}
		}
	}
}

// P16.1: what stands above a phase's bits says nothing.
func TestPollOfHighBits(t *testing.T) {
	q := api.Phase{No: 3, Mode: api.ModeShade, Mark: 1}
	for bit := 46; bit < 64; bit++ {
		p, m := made(t, 1, q)
		m.Store(api.AtPhase, watch.Phase(q)|1<<bit)
		lookAt(t, p, m, 0, told{own: q}).end(watch.Load(api.AtPhase))
		l := lookAt(t, p, m, 0, told{own: other(q)})
		l.finds()
		l.acknowledges(q)
	}
}

// P16.1: all bits of both Nos are held against each other, those of its own that no phase's word holds too.
func TestPollHoldsAllBits(t *testing.T) {
	for _, no := range []int{0, 5, api.Wrap - 1} {
		q := api.Phase{No: no, Mode: api.ModeShade}
		for bit := range 64 {
			p, m := made(t, 1, q)
			l := lookAt(t, p, m, 0, told{own: api.Phase{No: no ^ 1<<bit}})
			l.finds()
			l.acknowledges(q)
		}
	}
}

// P16.1: in a mode that wants nothing of a thread: two steps, the second one tells that the phase was taken over, by the thread's own word; the whole phase is its own then.
func TestPollThatOnlyAcknowledges(t *testing.T) {
	for _, mode := range modes() {
		switch mode {
		case api.ModeRoots, api.ModePrep, api.ModeFix:
			continue
		}
		for _, q := range phases(mode) {
			for _, r := range someRoots() {
				for _, x := range []struct{ threads, thread int }{{1, 0}, {2, 0}, {2, 1}, {64, 0}, {64, 40}, {64, 63}} {
					p, m := made(t, x.threads, q)
					l := lookAt(t, p, m, x.thread, told{other(q), alpha, r})
					l.finds()
					l.acknowledges(q)
				}
			}
		}
	}
}

// P16.1: in ModeRoots the roots are shaded, from the first one on, with the Mark of the phase: those that are 0 take no step, and of those that are no object, or have the mark, grey or not, the header alone is looked at. No root is another one then.
func TestPollOfRoots(t *testing.T) {
	for _, x := range []struct {
		roots api.Roots
		mark  int
		steps int
		grey  []int
	}{
		{rootsOf(), 1, 2, []int{listed}},
		{rootsOf(0), 1, 2, []int{listed}},
		{rootsOf(0, 0, 0, 0, 0, 0, 0, 0), 0, 2, []int{listed}},
		{rootsOf(white), 1, 7, []int{white, listed}},
		{rootsOf(white), 0, 3, []int{listed}},
		{rootsOf(black), 1, 3, []int{listed}},
		{rootsOf(black), 0, 7, []int{black, listed}},
		{rootsOf(listed), 1, 3, []int{listed}},
		{rootsOf(free), 1, 3, []int{listed}},
		{rootsOf(feigned), 0, 3, []int{listed}},
		{rootsOf(white, white), 1, 8, []int{white, listed}},
		{rootsOf(white, now, white), 1, 13, []int{now, white, listed}},
		{rootsOf(0, white, 0, 0, now, 0), 1, 12, []int{now, white, listed}},
		{rootsOf(old, elder, tagged), 1, 13, []int{tagged, old, listed}},
		{rootsOf(white, black, 0, free, listed, white, feigned, now), 1, 17, []int{now, white, listed}},
		{rootsOf(white, white, white, white, white, white, white, white), 1, 14, []int{white, listed}},
		{rootsOf(white, now, old, twice, gone, tagged, 0, black), 1, 33, []int{tagged, gone, twice, old, now, white, listed}},
	} {
		for _, q := range phases(api.ModeRoots) {
			if q.Mark != x.mark {
				continue
			}
			p, m := made(t, 2, q)
			l := lookAt(t, p, m, 1, told{other(q), alpha, x.roots})
			if n := l.polls(); n != x.steps {
				t.Errorf("%v, Mark %d: %d steps, want %d", x.roots, x.mark, n, x.steps)
			}
			watch.CheckGrey(t, m, x.grey...)
		}
	}
}

// P16.1: so it is of all roots, with each Mark; an own phase of the other Mark, or the same one, is no matter.
func TestPollOfAnyRoots(t *testing.T) {
	for _, r := range someRoots() {
		for _, q := range phases(api.ModeRoots) {
			for mark := range 2 {
				p, m := made(t, 64, q)
				own := other(q)
				own.Mark = mark
				lookAt(t, p, m, 63, told{own, alpha, r}).polls()
			}
		}
	}
}

// P16.1: a root's Shade goes on as one does whose header, or list, is another one by then; the next root's begins behind it.
func TestPollOfRootsThatChange(t *testing.T) {
	q := api.Phase{No: 2, Mode: api.ModeRoots, Mark: 1}
	p, m := made(t, 1, q)
	l := lookAt(t, p, m, 0, told{api.Phase{No: 1}, alpha, rootsOf(white, now, old)})
	l.finds()
	for tag := range uint64(4) { // the header is another one at its CAS
		l.Step(watch.Load(white), false)
		l.Stored(white, watch.Object(0, 2, 0)+(tag+1)<<9)
		l.Fails(white)
	}
	l.Step(watch.Load(white), false)
	l.Want[white] = watch.Shaded(l.Want[white], 1)
	l.Step(watch.CAS(white, true), false)
	for range 4 { // the list is another one at its CAS
		l.Step(watch.Load(api.AtGrey), false)
		l.Want[white] = watch.Shaded(l.Want[white], 1) + listed<<12
		l.Step(watch.Store(white), false)
		l.Stored(api.AtGrey, watch.Behind(l.Want[api.AtGrey], listed))
		l.Fails(api.AtGrey)
	}
	l.Listed(white)
	l.Stored(now, watch.Object(0, 3, 1)) // another has given it the mark
	l.Step(watch.Load(now), false)
	l.Step(watch.Load(old), false)
	l.Stored(old, watch.Free(0, 0)) // it is no object any more
	l.Fails(old)
	l.Step(watch.Load(old), false)
	l.acknowledges(q)
	watch.CheckGrey(t, m, white, listed)
}

// P16.1: what was found at step 1 counts to the end, whatever is asked for by then.
func TestPollGoesByWhatItFound(t *testing.T) {
	for _, mode := range modes() {
		for _, later := range modes() {
			q := api.Phase{No: 9, Mode: mode, Mark: 1, List: 1}
			p, m := made(t, 2, q)
			m.Store(api.AtAlpha, 3)
			given := told{api.Phase{No: 8}, alpha, rootsOf(white, 0, old)}
			l := lookAt(t, p, m, 0, given)
			l.finds()
			l.Stored(api.AtPhase, watch.Phase(api.Phase{No: 10, Mode: later}))
			switch mode {
			case api.ModeRoots:
				l.Shaded(white, 1)
				l.Shaded(old, 1)
			case api.ModePrep:
				l.now.alpha = 3
				l.Step(watch.Load(api.AtAlpha), false)
			case api.ModeFix:
				l.moves(0)
				l.moves(2)
			}
			l.acknowledges(q)
		}
	}
}

// P16.1: in ModePrep alpha is what the word says by then, whatever the thread knew; no root is shaded, or follows what was moved.
func TestPollOfAlpha(t *testing.T) {
	for _, w := range []uint64{0, 1, alpha, 77, api.MaxScalar, 1<<63 - 1, 1 << 63, math.MaxUint64} {
		for _, knew := range []int{0, alpha, 77, api.MaxScalar, -1, math.MinInt} {
			for _, r := range someRoots() {
				q := api.Phase{No: 7, Mode: api.ModePrep, Mark: 1, List: 1}
				p, m := made(t, 2, q)
				l := lookAt(t, p, m, 1, told{api.Phase{No: 6}, knew, r})
				l.finds()
				l.Stored(api.AtAlpha, w)
				l.now.alpha = int(w)
				l.Step(watch.Load(api.AtAlpha), false)
				l.Stored(api.AtAlpha, w+1)
				l.acknowledges(q)
			}
		}
	}
}

// P16.1: in ModeFix each root that is not 0 takes a step, behind which it is where the header says that its object was moved, if it was; nothing is shaded.
func TestPollOfMovedRoots(t *testing.T) {
	for _, x := range []struct {
		roots, want api.Roots
		steps       int
	}{
		{rootsOf(), rootsOf(), 2},
		{rootsOf(0), rootsOf(0), 2},
		{rootsOf(old), rootsOf(now), 3},
		{rootsOf(now), rootsOf(now), 3},
		{rootsOf(white, black, free, tagged, feigned, listed), rootsOf(white, black, free, tagged, feigned, listed), 8},
		{rootsOf(old, old, elder, now), rootsOf(now, now, now, now), 6},
		{rootsOf(0, old, 0, 0, white, elder, 0), rootsOf(0, now, 0, 0, white, now, 0), 5},
		{rootsOf(twice), rootsOf(old), 3}, // its Link alone, which was moved, too
		{rootsOf(gone, old, gone), rootsOf(0, now, 0), 5},
		{rootsOf(old, elder, old, elder, old, elder, old, elder), rootsOf(now, now, now, now, now, now, now, now), 10},
	} {
		for _, q := range phases(api.ModeFix) {
			p, m := made(t, 2, q)
			l := lookAt(t, p, m, 0, told{other(q), alpha, x.roots})
			if n := l.polls(); n != x.steps || l.now.r != x.want {
				t.Errorf("%v: %v behind %d steps, want %v, %d", x.roots, l.now.r, n, x.want, x.steps)
			}
			watch.CheckGrey(t, m, listed)
		}
	}
}

// P16.1: of each State and Tag, just an object that was moved is followed, whatever else its header has.
func TestPollOfEachHeader(t *testing.T) {
	q := api.Phase{No: 1, Mode: api.ModeFix}
	for bits := range uint64(1 << 12) { // all but the Link
		p, m := made(t, 1, q)
		m.Store(white, bits+now<<12+1<<40)
		want := white
		if bits%4 == api.CellObject && bits>>9 == api.TagMoved {
			want = now
		}
		x := NewPoll(p, 0, api.Phase{}, alpha, rootsOf(white))
		if n := watch.Run(t, x, m); n != 3 {
			t.Errorf("%#x: %d steps", bits, n)
		}
		checkTells(t, x, told{q, alpha, rootsOf(want)})
	}
}

// P16.1: each root goes by what the header is at its own step, so that two of one object may be told apart; what is told of one that was looked at stays.
func TestPollOfHeadersThatChange(t *testing.T) {
	q := api.Phase{No: 1, Mode: api.ModeFix, Mark: 1}
	p, m := made(t, 1, q)
	l := lookAt(t, p, m, 0, told{api.Phase{}, alpha, rootsOf(white, white, white)})
	l.finds()
	l.moves(0)
	l.Stored(white, watch.Moved(0, 2, 0, now))
	l.moves(1)
	l.Stored(white, watch.Moved(0, 2, 0, old))
	l.moves(2)
	l.Stored(white, 0)
	l.acknowledges(q)
	if l.now.r != rootsOf(white, now, old) {
		t.Errorf("the roots are %v", l.now.r)
	}
}

// P16.1: the roots are the first N, whatever stands behind them, which stays; there are as many as L has at most, and none below 0.
func TestPollOfRootsThatMayNotBe(t *testing.T) {
	all := [api.MaxRoots]int{old, white, 0, elder, now, old, twice, gone}
	for _, n := range append(edges.Numbers(), watch.UpTo(10)...) {
		for _, mode := range modes() {
			q := api.Phase{No: 1, Mode: mode, Mark: 1}
			p, m := made(t, 2, q)
			r := api.Roots{N: n, L: all}
			have := min(max(n, 0), api.MaxRoots)
			x := NewPoll(p, 1, api.Phase{}, alpha, r)
			checkTells(t, x, told{api.Phase{}, alpha, r})
			like, y := m.Clone(), NewPoll(p, 1, api.Phase{}, alpha, rootsOf(all[:have]...))
			if k := watch.Run(t, x, m); k != watch.Run(t, y, like) {
				t.Errorf("N %d, mode %d: %d steps", n, mode, k)
			}
			watch.CheckWords(t, m, watch.Words(like))
			want := tells(y)
			want.r.N = n
			copy(want.r.L[have:], all[have:])
			checkTells(t, x, want)
		}
	}
}

// R1: a root that the memory does not have is no object: one access, a trap, and it stays.
func TestPollOfRootsElsewhere(t *testing.T) {
	for _, n := range edges.Numbers() {
		for _, mode := range []int{api.ModeRoots, api.ModeFix} {
			q := api.Phase{No: 1, Mode: mode, Mark: 1}
			p, m := made(t, 1, q)
			if n >= 0 && n < m.Len() {
				continue
			}
			want := watch.Words(m)
			want[api.AtAcks] = 1
			count, given := m.Count(), told{api.Phase{}, alpha, rootsOf(n, 0, n)}
			x := NewPoll(p, 0, given.own, given.alpha, given.r)
			if k := watch.Run(t, x, m); k != 4 || m.Count() != count+4 || m.Traps() != 2 {
				t.Errorf("a root %d: %d steps, %d accesses, %d traps", n, k, m.Count()-count, m.Traps())
			}
			given.own = q
			checkTells(t, x, given)
			watch.CheckWords(t, m, want)
		}
	}
}

// R1: a thread that there is not acknowledges by the word that would be its own, if there is one; each step is one access.
func TestPollOfOtherThreads(t *testing.T) {
	for _, n := range append(edges.Numbers(), watch.UpTo(80)...) {
		q := api.Phase{No: 1, Mode: api.ModeShade}
		p, m := made(t, 2, q)
		want := watch.Words(m)
		at, traps := api.AtAcks+n, 1
		if at >= 0 && at < m.Len() {
			want[at], traps = 1, 0
		}
		x, count := NewPoll(p, n, api.Phase{}, alpha, rootsOf(white)), m.Count()
		if k := watch.Run(t, x, m); k != 2 || m.Count() != count+2 || m.Traps() != traps {
			t.Errorf("the thread %d: %d steps, %d accesses, %d traps", n, k, m.Count()-count, m.Traps())
		}
		checkTells(t, x, told{q, alpha, rootsOf(white)})
		watch.CheckDone(t, x, m)
		watch.CheckWords(t, m, want)
	}
}

// R1: of a memory that has a phase alone alpha is what a trap answers, and the acknowledgement is a trap; any plan will do.
func TestPollOfShortMemory(t *testing.T) {
	for _, p := range []api.Plan{{}, {Threads: -1, Blocks: -1, Table: -1, Heap: -1, Size: -1}, {Threads: math.MaxInt, Table: math.MaxInt}} {
		m, _ := mem.New(1)
		q := api.Phase{No: 1, Mode: api.ModePrep}
		m.Store(api.AtPhase, watch.Phase(q))
		x := NewPoll(p, 0, api.Phase{}, alpha, rootsOf())
		if n := watch.Run(t, x, m); n != 3 || m.Count() != 4 || m.Traps() != 2 {
			t.Errorf("%d steps, %d accesses, %d traps", n, m.Count(), m.Traps())
		}
		checkTells(t, x, told{q, 0, rootsOf()})
		watch.CheckDone(t, x, m)
	}
}

// R6: a new Poll does no access; what it does hangs on its steps' moments, and what it tells does not change any more.
func TestPollIsOfItsSteps(t *testing.T) {
	q := api.Phase{No: 4, Mode: api.ModeFix}
	p, m := made(t, 1, api.Phase{No: 3})
	count := m.Count()
	given := told{api.Phase{No: 3}, alpha, rootsOf(white, old)}
	x := NewPoll(p, 0, given.own, given.alpha, given.r)
	if m.Count() != count {
		t.Error("a new Poll does an access")
	}
	m.Store(api.AtPhase, watch.Phase(q))
	m.Store(white, watch.Moved(0, 2, 0, now))
	watch.Run(t, x, m)
	want := told{q, alpha, rootsOf(now, now)}
	checkTells(t, x, want)
	m.Store(api.AtPhase, watch.Phase(other(q)))
	m.Store(now, watch.Moved(0, 3, 0, white))
	watch.CheckDone(t, x, m)
	checkTells(t, x, want)
}

// R6, R7: a copy of a Poll goes its own way, at each step of it; what was told is the caller's own.
func TestPollsCopied(t *testing.T) {
	for _, mode := range modes() {
		q := api.Phase{No: 4, Mode: mode, Mark: 1}
		given := told{api.Phase{No: 3}, alpha, rootsOf(white, old, 0, elder, now)}
		p, m := made(t, 1, q)
		x := NewPoll(p, 0, given.own, given.alpha, given.r)
		all := watch.Run(t, x, m.Clone())
		for steps := range all {
			m := m.Clone()
			x := NewPoll(p, 0, given.own, given.alpha, given.r)
			for range steps {
				x.Step(m)
			}
			y, n, was := *x, m.Clone(), tells(x)
			_, _, r := x.Result()
			r.L[0]++
			checkTells(t, x, was)
			if k := watch.Run(t, x, m); k != all-steps {
				t.Errorf("the Poll takes %d more steps", k)
			}
			checkTells(t, &y, was)
			if k := watch.Run(t, &y, n); k != all-steps {
				t.Errorf("the copy takes %d more steps", k)
			}
			checkTells(t, &y, tells(x))
			watch.CheckWords(t, n, watch.Words(m))
		}
	}
}

// R1: a Poll that nobody made is done, and tells nothing.
func TestPollMadeByNobody(t *testing.T) {
	_, m := made(t, 1, api.Phase{No: 1})
	x := &Poll{}
	watch.CheckDone(t, x, m)
	checkTells(t, x, told{})
}
