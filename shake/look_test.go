package shake

import (
	"testing"

	"flit/api"
	"flit/mem"
	"flit/plan"
	"flit/watch"
)

// Where the objects of these tests stand, with a plan of any number of threads.
const (
	white   = 100 // an object without the mark 1
	black   = 104 // one that has it
	old     = 108 // one that was moved to now
	now     = 112
	elder   = 116 // so was this one
	free    = 120 // a free cell
	tagged  = 124 // an object that is to be moved, its copy being now
	feigned = 128 // a free cell whose tag and link are those of one that was moved to now
	listed  = 132 // a grey object
	twice   = 136 // one that was moved to old
	gone    = 140 // one that was moved, to nowhere
)

// alpha is the sentinel that the thread knows in these tests.
const alpha = 5

// made is a memory of a plan of so many threads, with these objects, in which q is asked for. No word outside of these is nought: nobody has acknowledged.
func made(t *testing.T, threads int, q api.Phase) (api.Plan, *mem.Memory) {
	t.Helper()
	p, e := plan.New(threads, 4)
	if e != api.OK {
		t.Fatalf("plan.New: error %d", e)
	}
	m := watch.Full(t, p.Size)
	for a, w := range map[int]uint64{
		api.AtPhase: watch.Phase(q),
		api.AtGrey:  watch.Top(listed, 7),
		white:       watch.Object(0, 2, 0),
		black:       watch.Object(0, 1, 1),
		old:         watch.Moved(0, 3, 0, now),
		now:         watch.Object(0, 3, 0),
		elder:       watch.Moved(0, 3, 1, now),
		free:        watch.Free(0, 0),
		tagged:      watch.Tagged(0, 3, 0, api.TagTagged, now),
		feigned:     watch.Free(0, now) + api.TagMoved<<9,
		listed:      watch.Grey(0, 0, 1, 0),
		twice:       watch.Moved(0, 3, 0, old),
		gone:        watch.Moved(0, 3, 0, 0),
	} {
		m.Store(a, w)
	}
	m.Take()
	return p, m
}

// rootsOf are these.
func rootsOf(l ...int) api.Roots {
	r := api.Roots{N: len(l)}
	copy(r.L[:], l)
	return r
}

// someRoots are no roots, one, the same one several times, some between those that are 0, and as many as there may be.
func someRoots() []api.Roots {
	return []api.Roots{
		rootsOf(),
		rootsOf(0),
		rootsOf(white),
		rootsOf(old),
		rootsOf(white, white, white),
		rootsOf(0, white, 0, 0, old, 0),
		rootsOf(listed, elder, elder, tagged, feigned),
		rootsOf(white, black, old, now, elder, free, tagged, feigned),
		rootsOf(gone, twice, listed, 0, 0, listed, twice, gone),
		rootsOf(0, 0, 0, 0, 0, 0, 0, 0),
		rootsOf(now, now, now, now, now, now, now, now),
	}
}

// told is what a Poll tells.
type told struct {
	own   api.Phase
	alpha int
	r     api.Roots
}

func tells(x *Poll) told {
	own, alpha, r := x.Result()
	return told{own, alpha, r}
}

func checkTells(t *testing.T, x *Poll, want told) {
	t.Helper()
	if got := tells(x); got != want {
		t.Errorf("Result is %v, want %v", got, want)
	}
}

// polled is a Poll of which it is asked what it tells whenever the look asks for a Result.
type polled struct {
	watch.Quiet
	t    *testing.T
	x    *Poll
	want *told
}

func (y polled) Result() api.Out {
	y.t.Helper()
	checkTells(y.t, y.x, *y.want)
	return api.Out{}
}

// look looks at a Poll's steps, and at what is told behind each of them.
type look struct {
	*watch.Look
	ack int   // where its thread acknowledges
	now *told // what must be told
}

func lookAt(t *testing.T, p api.Plan, m *mem.Memory, thread int, given told) look {
	t.Helper()
	x := NewPoll(p, thread, given.own, given.alpha, given.r)
	y := polled{watch.Quiet{Machine: x}, t, x, &given}
	return look{watch.LookAt(t, m, y), api.AtAcks + thread, &given}
}

// end is a step behind which it is done.
func (l look) end(a api.Access) {
	l.T.Helper()
	l.Last(a, false, api.Out{})
}

// finds is the step 1, which finds another phase than the thread's own.
func (l look) finds() api.Phase {
	l.T.Helper()
	l.Step(watch.Load(api.AtPhase), false)
	return watch.OfPhase(l.Want[api.AtPhase])
}

// moves is the step 4 of the root at that place.
func (l look) moves(place int) {
	l.T.Helper()
	at := l.now.r.L[place]
	l.now.r.L[place] = l.Home(at)
	l.Step(watch.Load(at), false)
}

// acknowledges is the step 5, of a phase that was found.
func (l look) acknowledges(q api.Phase) {
	l.T.Helper()
	l.Want[l.ack] = uint64(q.No)
	l.now.own = q
	l.end(watch.Store(l.ack))
}

// polls is all steps, between which nobody else comes: how many.
func (l look) polls() int {
	l.T.Helper()
	count := l.M.Count()
	q := l.finds()
	for k, at := range l.now.r.L[:l.now.r.N] {
		switch {
		case at == 0:
		case q.Mode == api.ModeRoots:
			l.Shaded(at, q.Mark)
		case q.Mode == api.ModeFix:
			l.moves(k)
		}
	}
	if q.Mode == api.ModePrep {
		l.now.alpha = int(l.Want[api.AtAlpha])
		l.Step(watch.Load(api.AtAlpha), false)
	}
	l.acknowledges(q)
	return l.M.Count() - count
}

// asked looks at an Ask's steps.
type asked struct {
	*watch.Look
	ask api.Phase
}

func lookAtAsk(t *testing.T, p api.Plan, m *mem.Memory, ask api.Phase) asked {
	t.Helper()
	return asked{watch.LookAt(t, m, watch.Quiet{Machine: NewAsk(p, ask)}), ask}
}

// asks is the step 1.
func (l asked) asks() {
	l.T.Helper()
	l.Asks(l.ask)
}

// ends is the last look, at that thread.
func (l asked) ends(thread int) {
	l.T.Helper()
	l.Last(watch.Load(api.AtAcks+thread), false, api.Out{})
}

// acknowledged lets each of these threads have acknowledged the phase.
func (l asked) acknowledged(threads ...int) { l.Acknowledged(l.ask.No, threads...) }
