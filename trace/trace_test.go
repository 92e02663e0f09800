package trace

import (
	"math"
	"slices"
	"testing"

	"flit/api"
	"flit/edges"
	"flit/grey"
	"flit/head"
	"flit/mem"
	"flit/shake"
	"flit/watch"
)

// now is the phase that was asked for last in many of these tests.
func now(mark int) api.Phase {
	return api.Phase{No: 2, Mode: api.ModeRoots, Mark: mark, List: 1 - mark}
}

// P17.1: if nothing is grey Next tells none with one step, so that the Ask follows at once, in ModeTerm, with the next No, round at 2^40, and with the same Mark and List; the phase is told from the Ask's first step on, and not ahead of it.
func TestNothingIsGrey(t *testing.T) {
	for _, threads := range someThreads() {
		for _, q := range nows() {
			p, m := bare(t, threads)
			l := lookAt(t, p, m, q)
			l.finds()
			if *l.now != q {
				t.Error("another phase is told ahead of the Ask")
			}
			l.asks()
			want := api.Phase{No: (q.No + 1) % (1 << 40), Mode: api.ModeTerm, Mark: q.Mark, List: q.List}
			if *l.now != want || l.Want[api.AtPhase] != watch.Phase(want) {
				t.Errorf("behind %v: %v, want %v", q, *l.now, want)
			}
			l.answered()
			l.ends()
		}
	}
}

// P17.1: a version of the list's head says nothing, whatever it is.
func TestNothingIsGreyOfAnyVersion(t *testing.T) {
	for _, version := range []int{0, 1, 1 << 20, 1<<40 - 1} {
		p, m := bare(t, 1)
		m.Store(api.AtGrey, watch.Top(0, version)|0xfff<<52)
		l := lookAt(t, p, m, now(1))
		l.finds()
		l.asksAndEnds()
	}
}

// P17.1: the Ask waits for each thread, one behind the other; all the while the phase that it asks for is told, and the list is not looked at.
func TestAskWaits(t *testing.T) {
	for _, threads := range someThreads() {
		p, m := bare(t, threads)
		l := lookAt(t, p, m, now(1))
		l.finds()
		l.asks()
		for k := range threads {
			l.Looks(k, k, k)
			l.Acknowledged(l.now.No-1, k)
			l.Looks(k, k)
			l.Acknowledged(l.now.No, k)
			l.Looks(k)
		}
		l.ends()
	}
}

// values are what a field may have.
func values() []api.Val {
	l := []api.Val{{}, {N: white}, {N: api.MaxScalar}, {Kind: api.Empty}, {Kind: api.Empty, N: white}, {Kind: 3, N: white}}
	for _, at := range []int{0, first, white, black, listed, free, wide, moved} {
		l = append(l, refTo(at))
	}
	return l
}

// P17.1: an object of one field, whatever that has: just what a reference refers to is shaded, with the Mark of now; a scalar, what is empty, and the reference 0 take one step, as no Shade follows.
func TestField(t *testing.T) {
	for mark := range 2 {
		for _, v := range values() {
			p, m := made(t, 1, mark, v)
			l := lookAt(t, p, m, now(mark))
			order := l.traces()
			want := []int{first, listed}
			if v == refTo(white) {
				want = []int{first, white, listed}
			}
			if v == refTo(moved) { // it is shaded as it stands there, and looked through; what it refers to has the mark by then
				want = []int{first, moved, listed}
			}
			if !slices.Equal(order, want) {
				t.Errorf("mark %d, field %v: %d were looked through, want %d", mark, v, order, want)
			}
			l.marks(mark, order...)
			l.marks(1-mark, more)
		}
	}
}

// P17.1: how many steps there are: four of a Next that takes an object; a field has one, if it refers to nothing, two, if what it refers to has the mark, be it grey or not, or is no object, and six, if that is white; behind all that there are one of Next, two of an Ask, and the last one.
func TestSteps(t *testing.T) {
	const none = 4 + 4 + 1 + 2 + 1 // with two objects that are grey, and no field
	for _, x := range []struct {
		fields []api.Val
		want   int
	}{
		{nil, none},
		{[]api.Val{{}}, none + 1},
		{[]api.Val{{N: white}}, none + 1},
		{[]api.Val{{Kind: api.Empty, N: white}}, none + 1},
		{[]api.Val{refTo(0)}, none + 1},
		{[]api.Val{refTo(first)}, none + 2},
		{[]api.Val{refTo(black)}, none + 2},
		{[]api.Val{refTo(listed)}, none + 2},
		{[]api.Val{refTo(free)}, none + 2},
		{[]api.Val{refTo(wide)}, none + 2},
		{[]api.Val{refTo(more)}, none + 6 + 4},
		{[]api.Val{refTo(white)}, none + 6 + 4 + 1},
		{[]api.Val{refTo(moved)}, none + 6 + 4 + 2},
		{[]api.Val{refTo(more), refTo(more), {}, refTo(first)}, none + 6 + 2 + 1 + 2 + 4},
	} {
		for mark := range 2 {
			p, m := made(t, 1, mark, x.fields...)
			m.Store(api.AtAcks, 3)
			if got := watch.Run(t, New(p, now(mark)), m); got != x.want {
				t.Errorf("with the fields %v it takes %d steps, want %d", x.fields, got, x.want)
			}
		}
	}
}

// P17.1: what stands in a field is read without its being frozen or not.
func TestFrozenField(t *testing.T) {
	for mark := range 2 {
		p, m := made(t, 1, mark, refTo(white), api.Val{N: white})
		for k := range 2 {
			a := first + 1 + k
			m.Store(a, watch.Word(m, a)|4)
		}
		l := lookAt(t, p, m, now(mark))
		if order := l.traces(); !slices.Equal(order, []int{first, white, listed}) {
			t.Errorf("%d were looked through", order)
		}
	}
}

// P17.1: an object of each count of fields, each of which refers to another object: they are gone through rising, so that the last one of them is looked through first.
func TestCounts(t *testing.T) {
	for mark := range 2 {
		for count := range api.MaxFields + 1 {
			var fields []api.Val
			want := []int{first}
			for k := range count {
				fields = append(fields, refTo(more+4*k))
				want = slices.Insert(want, 1, more+4*k)
			}
			p, m := bare(t, 2)
			lay(m, first, 1-mark, fields...)
			for k := range count + 1 {
				lay(m, more+4*k, 1-mark)
			}
			list(m, 3, mark, first)
			l := lookAt(t, p, m, now(mark))
			if order := l.traces(); !slices.Equal(order, want) {
				t.Errorf("of %d fields: %d were looked through, want %d", count, order, want)
			}
			l.marks(mark, want...)
			l.marks(1-mark, more+4*count) // behind the last field's: nothing refers to it
		}
	}
}

// P17.1: how many fields there are is what the header told when it was taken, whatever it tells then.
func TestCountThatChanges(t *testing.T) {
	for _, count := range []int{0, 1, 7} {
		p, m := made(t, 1, 1, refTo(white), refTo(black))
		l := lookAt(t, p, m, now(1))
		at := l.Taken()
		l.Stored(first, headerOf(count, 1))
		l.reads(at, 0)
		l.reads(at, 1)
		if at := l.Taken(); at != white {
			t.Errorf("%d is taken behind the last field", at)
		}
	}
}

// P17.1: two fields, and more, of the same object: it is shaded by the first of them.
func TestFieldsOfTheSameObject(t *testing.T) {
	for mark := range 2 {
		for count := 2; count <= api.MaxFields; count++ {
			p, m := made(t, 1, mark, slices.Repeat([]api.Val{refTo(white)}, count)...)
			l := lookAt(t, p, m, now(mark))
			l.Taken()
			l.reads(first, 0)
			watch.CheckGrey(t, m, white, listed)
			for k := 1; k < count; k++ {
				l.Step(watch.Load(first+1+k), false)
				l.Step(watch.Load(white), false)
			}
			watch.CheckGrey(t, m, white, listed)
			if order := l.traces(); !slices.Equal(order, []int{white, listed}) {
				t.Errorf("%d were looked through", order)
			}
		}
	}
}

// P17.1, P17.2: cycles of one object, of two, and of many, and one that goes back to its middle: each object is looked through once.
func TestCycles(t *testing.T) {
	for mark := range 2 {
		for n := 1; n <= 8; n++ {
			for back := range n {
				p, m := bare(t, 1)
				var want []int
				for k := range n {
					to := k + 1
					if to == n {
						to = back
					}
					lay(m, more+4*k, 1-mark, api.Val{N: 3}, refTo(more+4*to))
					want = append(want, more+4*k)
				}
				list(m, 1<<40-2, mark, more)
				l := lookAt(t, p, m, now(mark))
				if order := l.traces(); !slices.Equal(order, want) {
					t.Errorf("%d were looked through, want %d", order, want)
				}
				l.marks(mark, want...)
			}
		}
	}
}

// P17.1: many are grey at first: they are taken from the first one on, and what they refer to ahead of what is behind them.
func TestManyAreGrey(t *testing.T) {
	p, m := made(t, 2, 1, refTo(more), refTo(moved))
	list(m, 9, 1, listed, white, first, black)
	l := lookAt(t, p, m, now(1))
	if order := l.traces(); !slices.Equal(order, []int{listed, white, first, moved, more, black}) {
		t.Errorf("%d were looked through", order)
	}
}

// P17.1: an object that has the mark is not looked through, though it was never grey.
func TestBlackIsPassedOver(t *testing.T) {
	for mark := range 2 {
		p, m := made(t, 1, mark, refTo(black))
		l := lookAt(t, p, m, now(mark))
		l.traces()
		l.marks(1-mark, more)
	}
}

// P17.1: each field is read at its step: what it had ahead of that says nothing, nor what it has then.
func TestFieldThatChanges(t *testing.T) {
	p, m := made(t, 1, 1, refTo(more), refTo(more), refTo(white))
	l := lookAt(t, p, m, now(1))
	l.Taken()
	l.Stored(first+1, watch.Field(api.Val{N: 5}))
	l.reads(first, 0)
	l.Stored(first+2, watch.Field(refTo(moved)))
	l.Step(watch.Load(first+2), false)
	l.Stored(first+2, watch.Field(refTo(white)))
	l.Shaded(moved, 1)
	l.Stored(first+1, watch.Field(refTo(more)))
	l.Stored(first+3, 0)
	l.reads(first, 2)
	if order := l.traces(); !slices.Equal(order, []int{moved, listed}) {
		t.Errorf("%d were looked through", order)
	}
	l.marks(0, white, more)
}

// P17.1: a list that is another one at Next's CAS: it takes what is first by then, ahead of any field.
func TestListThatChanges(t *testing.T) {
	p, m := made(t, 1, 1, refTo(more))
	l := lookAt(t, p, m, now(1))
	shade := grey.NewShade(white, 1)
	for range 4 {
		l.other(shade)
	}
	l.Step(watch.Load(api.AtGrey), false)
	l.Step(watch.Load(first), false)
	if !l.other(shade) {
		t.Error("the Shade is not done")
	}
	l.Fails(api.AtGrey)
	if order := l.traces(); !slices.Equal(order, []int{white, first, more, listed}) {
		t.Errorf("%d were looked through", order)
	}
}

// P17.1: what a field refers to is shaded by another thread meanwhile: then the Trace passes over it, and takes it from the list.
func TestShadedMeanwhile(t *testing.T) {
	for steps := range 6 {
		p, m := made(t, 1, 1, refTo(white), refTo(more))
		l := lookAt(t, p, m, now(1))
		l.Taken()
		l.Step(watch.Load(first+1), false)
		l.Step(watch.Load(white), false)
		shade := grey.NewShade(white, 1)
		for range steps {
			l.other(shade)
		}
		if steps < 2 {
			w := watch.Shaded(l.Want[white], 1)
			l.Want[white] = w
			l.Step(watch.CAS(white, true), false)
			l.Listed(white)
		} else {
			l.Fails(white)
			l.Step(watch.Load(white), false)
		}
		l.reads(first, 1)
		for !l.other(shade) {
		}
		order := l.traces()
		slices.Sort(order)
		if !slices.Equal(order, []int{white, listed, more}) {
			t.Errorf("behind %d steps of a Shade: %d were looked through", steps, order)
		}
	}
}

// P17.1: something is made grey between the step at which nothing is, and the last one: then it is looked through, and another Ask follows, with the next No.
func TestGreyMeanwhile(t *testing.T) {
	const threads = 3
	for steps := range threads + 2 { // of the Ask, ahead of that
		for _, q := range []api.Phase{now(0), now(1), {No: api.Wrap - 2, Mode: api.ModeRoots, Mark: 1}} {
			p, m := laid(t, threads, q.Mark)
			l := lookAt(t, p, m, q)
			l.finds()
			for _, at := range []int{white, more, listed} {
				l.asksWhile(steps, func() { watch.Run(t, grey.NewShade(at, q.Mark), m) })
				l.goesOn()
				l.through()
				l.finds()
			}
			l.asksAndEnds()
			if want := (q.No + 4) % (1 << 40); l.now.No != want {
				t.Errorf("the last No is %d, want %d", l.now.No, want)
			}
			l.marks(q.Mark, white, more, listed)
			l.marks(1-q.Mark, first, moved)
		}
	}
}

// P17.1: a thread's Shade that begins, and does some of its steps, ahead of the Trace, and whose last step comes ahead of it, behind Next's look at the list, behind the Ask's first step, or behind the Ask: what it shades is looked through, by another round if need be.
func TestShadeThatEndsBehindTheAsk(t *testing.T) {
	for begun := range 5 { // steps of the Shade ahead of the Trace
		for end := range 4 { // steps of the Trace ahead of the rest of it
			p, m := laid(t, 1, 1)
			l := lookAt(t, p, m, now(1))
			shade := grey.NewShade(white, 1)
			for range begun {
				l.other(shade)
			}
			rest := func(k int) {
				for k == end && !l.other(shade) {
				}
			}
			rest(0)
			if end == 0 {
				l.through()
			}
			l.finds()
			rest(1)
			l.asks()
			rest(2)
			l.answered()
			rest(3)
			if end != 0 {
				l.goesOn()
				l.through()
				l.finds()
				l.asks()
				l.answered()
			}
			l.ends()
			l.marks(1, white)
			l.marks(0, first)
		}
	}
}

// P17.1: a Shade whose last step comes behind the Trace's last one is not waited for.
func TestShadeThatEndsBehindAll(t *testing.T) {
	p, m := laid(t, 1, 1)
	l := lookAt(t, p, m, now(1))
	shade := grey.NewShade(white, 1)
	for range 4 {
		l.other(shade)
	}
	l.finds()
	l.asksAndEnds()
	if !l.other(shade) {
		t.Error("the Shade is not done")
	}
	watch.CheckDone(t, l.X, m)
	watch.CheckGrey(t, m, white)
}

// P17.1: the word of the phase is not looked at: now is what was given.
func TestPhaseIsNotRead(t *testing.T) {
	p, m := made(t, 1, 1, refTo(white))
	l := lookAt(t, p, m, now(1))
	for l.Want[api.AtGrey]%4096 != 0 {
		l.Stored(api.AtPhase, watch.Phase(api.Phase{No: 99, Mode: 9}))
		l.through()
	}
	l.finds()
	l.Stored(api.AtPhase, watch.Phase(api.Phase{No: 99, Mode: 9}))
	l.asks()
	l.Stored(api.AtPhase, watch.Phase(api.Phase{No: 99, Mode: 9}))
	l.answered()
	l.ends()
}

// P17.1: each number of now: No and 1 is modulo 2^40, also below 0; the Mark and the List are told as they are given, and the phase's word has what its bits hold.
func TestOtherNumbers(t *testing.T) {
	for _, n := range edges.Numbers() {
		q := api.Phase{No: n, Mode: n, Mark: n, List: n}
		told := api.Phase{No: int(edges.Modulo(n+1, 40)), Mode: api.ModeTerm, Mark: n, List: n}
		word := told
		word.Mark, word.List = int(edges.Modulo(n, 1)), int(edges.Modulo(n, 1))
		p, m := bare(t, 1)
		x := New(p, q)
		x.Step(m)
		if got := x.Phase(); got != q {
			t.Errorf("Phase is %v, want %v", got, q)
		}
		x.Step(m)
		if got := x.Phase(); got != told {
			t.Errorf("Phase is %v, want %v", got, told)
		}
		watch.CheckWord(t, m, api.AtPhase, watch.Phase(word))
		m.Store(api.AtAcks, uint64(told.No))
		if x.Step(m) || !x.Step(m) {
			t.Errorf("behind %v: the Ask's and the last step are not false, true", q)
		}
	}
}

// R1: a Mark that is neither 0 nor 1 is no header's, so that an object is shaded anew with its lowest bit.
func TestOtherMarks(t *testing.T) {
	for _, n := range edges.Numbers() {
		p, m := made(t, 1, 1, refTo(white), refTo(black))
		x := New(p, api.Phase{Mark: n})
		for range 7 { // up to the CAS
			x.Step(m)
		}
		want := headerOf(1, 0)
		if n != 0 {
			want = watch.Shaded(want, int(edges.Modulo(n, 1)))
		}
		watch.CheckWord(t, m, white, want)
	}
}

// R1: of a plan without threads the Ask is one step; one with more than there may be goes on to look at them.
func TestOtherPlans(t *testing.T) {
	for _, threads := range []int{0, -1, math.MinInt} {
		p, m := bare(t, 1)
		p.Threads = threads
		l := lookAt(t, p, m, now(1))
		l.finds()
		l.asksAndEnds()
	}
	p, m := bare(t, api.MaxThreads)
	p.Threads = math.MaxInt
	l := lookAt(t, p, m, now(1))
	l.finds()
	l.asks()
	l.Acknowledged(l.now.No, watch.UpTo(api.MaxThreads+6)...)
	l.Looks(watch.UpTo(api.MaxThreads + 6)...)
	l.Looks(api.MaxThreads+6, api.MaxThreads+6)
}

// R1: references to where the memory has nothing are traps, as are fields that it does not have; the Trace goes on.
func TestBeyondTheMemory(t *testing.T) {
	p, m := made(t, 1, 1, refTo(p61()), refTo(m61()), refTo(white))
	last := m.Len() - 1
	m.Store(last, headerOf(7, 1))
	list(m, 0, 1, first, last)
	m.Store(api.AtAcks, 3)
	x := New(p, now(1))
	for range 999 {
		n, traps := m.Count(), m.Traps()
		done := x.Step(m)
		if m.Count() != n+1 || m.Traps() > traps+1 {
			t.Fatalf("a Step: %d accesses, %d traps", m.Count()-n, m.Traps()-traps)
		}
		if done {
			break
		}
	}
	if m.Traps() != 9 || x.Phase().No != 3 {
		t.Errorf("%d traps, phase %v", m.Traps(), x.Phase())
	}
	watch.CheckDone(t, x, m)
	watch.CheckGrey(t, m)
}

// p61 is the greatest number that a field has, m61 one behind the memory's words.
func p61() int { return 1<<61 - 1 }
func m61() int { return api.MaxWords }

// R1: a memory of one word: nothing is grey; the threads' words are as if they were 0, which only a phase of that No takes for an acknowledgement.
func TestShortMemory(t *testing.T) {
	for _, no := range []int{5, api.Wrap - 1} {
		m, _ := mem.New(1)
		p, _ := bare(t, 2)
		x := New(p, api.Phase{No: no})
		steps := 0
		for k := range 50 {
			if x.Step(m) {
				steps = k + 1
				break
			}
		}
		if want := map[int]int{5: 0, api.Wrap - 1: 5}[no]; steps != want {
			t.Errorf("behind the No %d it is done with the step %d, want %d", no, steps, want)
		}
	}
}

// R6: a new Trace does no access, and a copy of a Trace goes its own way, at each step of it.
func TestCopies(t *testing.T) {
	p, m := made(t, 2, 1, refTo(white), refTo(first), api.Val{}, refTo(more))
	for k := range 2 {
		m.Store(api.AtAcks+k, 3)
	}
	count := m.Count()
	New(p, now(1))
	if m.Count() != count {
		t.Error("a new Trace does an access")
	}
	all := watch.Run(t, New(p, now(1)), m.Clone())
	for steps := range all + 1 {
		m := m.Clone()
		x := New(p, now(1))
		for range steps {
			x.Step(m)
		}
		y, n, told := *x, m.Clone(), x.Phase()
		k := 0
		for ; !x.Step(m); k++ {
		}
		if y.Phase() != told {
			t.Errorf("behind %d steps the copy tells %v, want %v", steps, y.Phase(), told)
		}
		z := y
		for ; !y.Step(n); k-- {
		}
		if k != 0 || y.Phase() != x.Phase() || z.Phase() != told {
			t.Errorf("behind %d steps the copy goes another way", steps)
		}
		watch.CheckWords(t, n, watch.Words(m))
		watch.CheckDone(t, &y, n)
	}
}

// R7: what was handed in may be changed by the caller then, and what is told of two Traces is their own.
func TestTwoTraces(t *testing.T) {
	p, m := made(t, 1, 1, refTo(white))
	q := now(1)
	x, y := New(p, q), New(p, api.Phase{No: 9, Mark: 1})
	p.Threads, q.No = 7, 50
	m.Store(api.AtAcks, 3)
	watch.Run(t, x, m)
	if x.Phase().No != 3 || y.Phase() != (api.Phase{No: 9, Mark: 1}) {
		t.Errorf("%v, %v are told", x.Phase(), y.Phase())
	}
}

// R1: a Trace that nobody made is done, and tells no phase.
func TestMadeByNobody(t *testing.T) {
	_, m := made(t, 1, 1)
	x := &Trace{}
	watch.CheckDone(t, x, m)
	if x.Phase() != (api.Phase{}) {
		t.Errorf("Phase is %v", x.Phase())
	}
}

// P17.1: the chapter's example.
func TestExamples(t *testing.T) {
	p, m := bare(t, 1)
	m.Store(api.AtGrey, 0)
	m.Store(api.AtPhase, watch.Phase(api.Phase{No: 2, Mode: api.ModeRoots, Mark: 1}))
	m.Take()
	own := api.Phase{No: 2, Mode: api.ModeRoots, Mark: 1}
	x := New(p, own)
	if x.Step(m) || x.Step(m) || x.Step(m) {
		t.Error("it is done ahead of the acknowledgement")
	}
	y := shake.NewPoll(p, 0, own, 0, api.Roots{})
	if y.Step(m) || !y.Step(m) || x.Step(m) || !x.Step(m) {
		t.Error("a Poll's two steps, and two then, are not false, true, false, true")
	}
	if got := x.Phase(); got != (api.Phase{No: 3, Mode: api.ModeTerm, Mark: 1}) {
		t.Errorf("Phase is %v", got)
	}
	want := []api.Access{
		watch.Load(api.AtGrey), watch.Store(api.AtPhase), watch.Load(api.AtAcks),
		watch.Load(api.AtPhase), watch.Store(api.AtAcks),
		watch.Load(api.AtAcks), watch.Load(api.AtGrey),
	}
	if got := m.Take(); !slices.Equal(got, want) {
		t.Errorf("the accesses are %v, want %v", got, want)
	}
}

// P17.1, P17.2: objects one of which can be come to from the grey one, with a thread that polls ahead of each step.
func TestWithOneThread(t *testing.T) {
	for mark := range 2 {
		p, m := bare(t, 1)
		for k, v := range []api.Val{refTo(104), refTo(100), refTo(112), {}} {
			lay(m, 100+4*k, 1-mark, api.Val{N: 9}, v)
		}
		list(m, 0, mark, 100)
		x, own := New(p, now(mark)), now(mark)
		for !x.Step(m) {
			y := shake.NewPoll(p, 0, own, 0, api.Roots{})
			watch.Run(t, y, m)
			own, _, _ = y.Result()
		}
		for at, want := range map[int]int{100: mark, 104: mark, 108: 1 - mark, 112: 1 - mark} {
			if h := head.Of(watch.Word(m, at)); h.Mark != want || h.Grey != 0 || h.Link != 0 {
				t.Errorf("the header at %d is %v", at, h)
			}
		}
	}
}
