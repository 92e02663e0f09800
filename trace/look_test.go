package trace

import (
	"testing"

	"flit/api"
	"flit/edges"
	"flit/mem"
	"flit/plan"
	"flit/watch"
)

// Where the objects of these tests stand, with a plan of any number of threads.
const (
	first  = 100 // the object that is looked through first
	white  = 108 // one without the mark, of one field
	black  = 112 // one that has the mark, of one field
	listed = 116 // one that is grey, behind the first one, without fields
	free   = 120 // a free cell
	wide   = 124 // a wide object
	moved  = 128 // one without the mark that was moved to white
	more   = 132 // from here on there is room for more of them
)

// refTo is a reference.
func refTo(at int) api.Val { return api.Val{Kind: api.Ref, N: at} }

// headerOf is that of an object of so many fields.
func headerOf(count, mark int) uint64 { return watch.Object(count/4, count, mark) }

// lay lays down an object with these fields.
func lay(m *mem.Memory, at, mark int, fields ...api.Val) {
	m.Store(at, headerOf(len(fields), mark))
	for k, v := range fields {
		m.Store(at+1+k, watch.Field(v))
	}
}

// list lets just these objects be grey, the first one first; the list's head has that version.
func list(m *mem.Memory, version, mark int, l ...int) {
	next := 0
	for k := range l {
		at := l[len(l)-1-k]
		h := watch.Word(m, at)
		m.Store(at, watch.Shaded(h, mark)|uint64(next)<<12)
		next = at
	}
	m.Store(api.AtGrey, watch.Top(next, version))
	m.Take()
}

// bare is a memory of a plan of so many threads, in which nothing is grey. No other word is nought, and nobody has acknowledged.
func bare(t *testing.T, threads int) (api.Plan, *mem.Memory) {
	t.Helper()
	p, e := plan.New(threads, 5)
	if e != api.OK {
		t.Fatalf("plan.New: error %d", e)
	}
	m := watch.Full(t, p.Size)
	list(m, 7, 0)
	return p, m
}

// laid is one with all these objects, the first one having these fields.
func laid(t *testing.T, threads, mark int, fields ...api.Val) (api.Plan, *mem.Memory) {
	t.Helper()
	p, m := bare(t, threads)
	lay(m, first, 1-mark, fields...)
	lay(m, white, 1-mark, api.Val{N: 5})
	lay(m, black, mark, refTo(more))
	lay(m, more, 1-mark)
	lay(m, listed, 1-mark)
	m.Store(free, watch.Free(0, white))
	m.Store(wide, watch.Wide(0, 3, white))
	m.Store(moved, watch.Moved(0, 1, 1-mark, white))
	m.Store(moved+1, watch.Field(refTo(first)))
	m.Take()
	return p, m
}

// made is one in which the first one and the listed one are grey.
func made(t *testing.T, threads, mark int, fields ...api.Val) (api.Plan, *mem.Memory) {
	t.Helper()
	p, m := laid(t, threads, mark, fields...)
	list(m, 7, mark, first, listed)
	return p, m
}

// someThreads are how many there may be.
func someThreads() []int { return []int{1, 2, 5, api.MaxThreads} }

// nows are phases with each Mark and List, some Nos, and some modes; the last one is none.
func nows() []api.Phase {
	var l []api.Phase
	for _, no := range []int{0, 2, 77, api.Wrap - 2, api.Wrap - 1} {
		for bits := range 4 {
			for _, mode := range []int{api.ModePlain, api.ModeRoots, api.ModeTerm, api.ModeFix, 15} {
				l = append(l, api.Phase{No: no, Mode: mode, Mark: bits & 1, List: bits >> 1})
			}
		}
	}
	return l
}

// traced is a Trace of which it is asked which phase it tells whenever a look asks for a Result.
type traced struct {
	watch.Quiet
	t    *testing.T
	x    *Trace
	want *api.Phase
}

func (y traced) Result() api.Out {
	y.t.Helper()
	if got := y.x.Phase(); got != *y.want {
		y.t.Errorf("Phase is %v, want %v", got, *y.want)
	}
	return api.Out{}
}

// look looks at a Trace's steps, and at the phase that it tells behind each of them.
type look struct {
	*watch.Look
	threads int
	now     *api.Phase // which it must tell
}

func lookAt(t *testing.T, p api.Plan, m *mem.Memory, now api.Phase) look {
	t.Helper()
	x := New(p, now)
	y := traced{watch.Quiet{Machine: x}, t, x, &now}
	return look{watch.LookAt(t, m, y), p.Threads, &now}
}

// finds is a Next that finds none.
func (l look) finds() {
	l.T.Helper()
	l.Step(watch.Load(api.AtGrey), false)
}

// reads is the look at a field, and the Shade of what that refers to.
func (l look) reads(at, field int) {
	l.T.Helper()
	a := at + 1 + field
	l.Step(watch.Load(a), false)
	if v := watch.Value(l.Want[a]); watch.Refers(v) {
		l.Shaded(v.N, l.now.Mark)
	}
}

// through is the steps of the grey object that is first: which one it is.
func (l look) through() int {
	l.T.Helper()
	at := l.Taken()
	for k := range watch.Count(l.Want[at]) {
		l.reads(at, k)
	}
	return at
}

// asks is the first step of an Ask, from which on another phase is told.
func (l look) asks() {
	l.T.Helper()
	l.now.No = int(edges.Modulo(l.now.No+1, 40))
	l.now.Mode = api.ModeTerm
	l.Asks(*l.now)
}

// answered is its looks at the threads, each of which has acknowledged.
func (l look) answered() {
	l.T.Helper()
	for k := range l.threads {
		l.Acknowledged(l.now.No, k)
		l.Looks(k)
	}
}

// asksWhile is an Ask whose threads acknowledge at once; behind so many of its steps others do something.
func (l look) asksWhile(steps int, others func()) {
	l.T.Helper()
	for k := range l.threads + 2 {
		if k == steps {
			others()
			copy(l.Want, watch.Words(l.M))
		}
		switch k {
		case 0:
			l.asks()
		case l.threads + 1: // the Ask is done
		default:
			l.Acknowledged(l.now.No, k-1)
			l.Looks(k - 1)
		}
	}
}

// goesOn is the last step of the chapter, if something is grey.
func (l look) goesOn() {
	l.T.Helper()
	l.Step(watch.Load(api.AtGrey), false)
}

// ends is that step, if nothing is.
func (l look) ends() {
	l.T.Helper()
	l.Last(watch.Load(api.AtGrey), false, api.Out{})
	watch.CheckGrey(l.T, l.M)
}

// asksAndEnds is all steps behind a look at the list that found nothing, if all threads acknowledge at once.
func (l look) asksAndEnds() {
	l.T.Helper()
	l.asks()
	l.answered()
	l.ends()
}

// traces is all steps, between which nobody else comes: in which order objects are looked through.
func (l look) traces() []int {
	l.T.Helper()
	var order []int
	for l.Want[api.AtGrey]%4096 != 0 {
		order = append(order, l.through())
	}
	l.finds()
	l.asksAndEnds()
	return order
}

// other lets another machine do a step in between, and tells whether that is done now.
func (l look) other(x watch.Machine) bool {
	done := x.Step(l.M)
	copy(l.Want, watch.Words(l.M))
	return done
}

// marks holds the mark of what is an object against what it must be.
func (l look) marks(want int, objects ...int) {
	l.T.Helper()
	for _, at := range objects {
		if got := watch.Mark(watch.Word(l.M, at)); got != want {
			l.T.Errorf("the object %d has the mark %d, want %d", at, got, want)
		}
	}
}
