package shake

import (
	"fmt"
	"math/rand"
	"slices"
	"testing"

	"flit/api"
	"flit/mem"
	"flit/plan"
	"flit/roots"
	"flit/watch"
)

// polling is what the chapter says of a Poll; now is what it tells behind the accesses that have been answered.
func polling(thread int, given told, now *told) watch.Work {
	return func(t *watch.Tale) api.Out {
		*now = given
		q := watch.OfPhase(t.Load(api.AtPhase))
		if q.No == given.own.No {
			return api.Out{}
		}
		if q.Mode == api.ModePrep {
			now.alpha = int(t.Load(api.AtAlpha))
		}
		for k, at := range given.r.L {
			switch {
			case k >= given.r.N || at == 0:
			case q.Mode == api.ModeRoots:
				t.Shade(at, q.Mark)
			case q.Mode == api.ModeFix:
				now.r.L[k] = watch.Home(t.Load(at), at)
			}
		}
		t.Store(api.AtAcks+thread, uint64(q.No))
		now.own = q
		return api.Out{}
	}
}

// asking is what it says of an Ask.
func asking(threads int, q api.Phase) watch.Work {
	return func(t *watch.Tale) api.Out {
		t.Ask(threads, q)
		return api.Out{}
	}
}

// poll is a Poll that is held against the chapter at each step.
type poll struct {
	x      *Poll
	thread int
	given  told
	met    []uint64 // what its accesses so far answered
}

func beginPoll(p api.Plan, thread int, given told) poll {
	return poll{x: NewPoll(p, thread, given.own, given.alpha, given.r), thread: thread, given: given}
}

// step does one: which access that was, whether it is done now, and what is wrong with it, or nothing.
func (y *poll) step(m *mem.Memory) (did api.Access, done bool, wrong string) {
	var now told
	b := watch.Beside{X: watch.Quiet{Machine: y.x}, Work: polling(y.thread, y.given, &now), Met: y.met}
	did, done, wrong = b.Step(m)
	y.met = b.Met
	if got := tells(y.x); wrong == "" && got != now {
		wrong = fmt.Sprintf("Result is %v, want %v", got, now)
	}
	return did, done, wrong
}

// ask is an Ask that is held so.
type ask struct {
	x       *Ask
	threads int
	q       api.Phase
	met     []uint64
}

func beginAsk(p api.Plan, q api.Phase) ask {
	return ask{x: NewAsk(p, q), threads: p.Threads, q: q}
}

// step is likewise one. A look that found nothing is as if it had not been.
func (y *ask) step(m *mem.Memory) (did api.Access, done bool, wrong string) {
	b := watch.Beside{X: watch.Quiet{Machine: y.x}, Work: asking(y.threads, y.q), Met: y.met}
	did, done, wrong = b.Step(m)
	if did.Op == 2 || len(b.Met) > 0 && b.Met[len(b.Met)-1] == uint64(y.q.No) {
		y.met = b.Met
	}
	return did, done, wrong
}

// thread polls again and again.
type thread struct {
	now    told
	poll   poll // x is nil: none is under way
	behind bool // the Poll began behind the first step of the Ask that is under way
	again  bool // the thread had acknowledged what that asks for
	polls  int  // how many Polls were begun, of a thread whose roots change between them
}

// The cells of objects, and of their copies.
var (
	objects = []int{32, 36, 40, 44}
	copies  = []int{48, 52, 56, 60}
)

// play is threads that poll, and a collector, which is the last actor, that asks for phases, one behind the other.
type play struct {
	plan    api.Plan
	m       *mem.Memory
	threads []thread
	todo    []api.Phase
	ask     ask  // x is nil: none is under way
	asked   bool // it has done its first step
	q       api.Phase
	late    int // how many looks there were since all have acknowledged
	changes bool
	tally   watch.Tally // one for all clones
}

// What plays are for.
const (
	pollAhead   = "a Poll ahead of the Ask's first step"
	pollAgain   = "one behind the acknowledgement, while the Ask waits"
	pollTakes   = "one that takes the phase over"
	headerFails = "a header that is another one at a Shade's CAS"
	listFails   = "a list that is another one there"
	hasMark     = "a root that another has given the mark"
	rootMoves   = "a root that follows"
	rootStays   = "one that stays"
	lookWaits   = "a look at a thread that is late"
	lookFinds   = "one at a thread that is not"
	waitsFirst  = "an Ask that waits for the first thread alone"
	waitsLast   = "one that waits for the last thread alone"
)

// cases are what all plays together must meet.
func cases() []string {
	return []string{pollAhead, pollAgain, pollTakes, headerFails, listFails, hasMark, rootMoves, rootStays, lookWaits, lookFinds, waitsFirst, waitsLast}
}

// begun is a play of threads with these roots, all of which work in the phase now, as they are asked for these.
func begun(t *testing.T, l watch.Tally, now api.Phase, todo []api.Phase, have ...api.Roots) *play {
	t.Helper()
	p, e := plan.New(len(have), 1)
	if e != api.OK {
		t.Fatalf("plan.New: error %d", e)
	}
	m, e := mem.New(p.Size)
	if e != api.OK {
		t.Fatalf("mem.New: error %d", e)
	}
	for k, at := range objects {
		m.Store(at, watch.Object(0, k, now.Mark))
		m.Store(copies[k], watch.Free(0, 0))
	}
	m.Store(api.AtPhase, watch.Phase(now))
	x := &play{plan: p, m: m, todo: todo, q: now, tally: l}
	for k, r := range have {
		m.Store(api.AtAcks+k, uint64(now.No))
		x.threads = append(x.threads, thread{now: told{now, 0, r}})
	}
	m.Take()
	return x
}

// Clone goes its own way, but for the tally.
func (p *play) Clone() *play {
	c := *p
	c.m, c.threads = p.m.Clone(), slices.Clone(p.threads)
	for i := range c.threads {
		if y := &c.threads[i].poll; y.x != nil {
			x := *y.x
			y.x = &x
		}
	}
	if c.ask.x != nil {
		x := *c.ask.x
		c.ask.x = &x
	}
	return &c
}

// Actors is how many there are, with the collector.
func (p *play) Actors() int { return len(p.threads) + 1 }

// Idle tells whether an actor has nothing to do any more: threads poll till the collector has asked for all phases.
func (p *play) Idle(i int) bool {
	over := p.ask.x == nil && len(p.todo) == 0
	return over && (i == len(p.threads) || p.threads[i].poll.x == nil)
}

// Step is one of the actor i: what is wrong with it, or nothing.
func (p *play) Step(i int) string {
	wrong := ""
	if i == len(p.threads) {
		wrong = p.stepAsk()
	} else {
		wrong = p.stepPoll(i)
	}
	if wrong == "" && p.m.Traps() != 0 {
		wrong = "it is a trap"
	}
	return wrong
}

func (p *play) stepPoll(i int) string {
	h := &p.threads[i]
	if h.poll.x == nil {
		p.changeRoots(h)
		h.poll = beginPoll(p.plan, i, h.now)
		h.behind, h.again = p.asked, h.now.own == p.q
	}
	did, done, wrong := h.poll.step(p.m)
	if wrong == "" {
		p.count(h, did, done)
	}
	if wrong == "" && done {
		wrong = p.told(i)
	}
	if wrong != "" {
		return fmt.Sprintf("a Poll of the thread %d, %v, that does %v, done: %t: %s", i, h.poll.given, did, done, wrong)
	}
	if done {
		*h = thread{now: tells(h.poll.x), polls: h.polls}
	}
	return ""
}

// changeRoots lets a thread have other roots by its next Poll, if threads of this play do: one twice, or one less.
func (p *play) changeRoots(h *thread) {
	if !p.changes {
		return
	}
	h.polls++
	r, e := roots.Dup(h.now.r, h.polls%api.MaxRoots)
	if e != api.OK {
		r, e = roots.Drop(h.now.r)
	}
	if e == api.OK {
		h.now.r = r
	}
}

// told is what is wrong with a thread whose Poll is done: which phase it works in, and whether it has done what that wants.
func (p *play) told(i int) string {
	h := p.threads[i]
	now, ack := tells(h.poll.x), watch.Word(p.m, api.AtAcks+i)
	switch {
	case ack != uint64(now.own.No):
		return fmt.Sprintf("it works in %v, but has acknowledged %d", now.own, ack)
	case h.behind && now.own != p.q:
		return fmt.Sprintf("it began behind the first step that asks for %v, but works in %v", p.q, now.own)
	case !h.behind && now != h.poll.given:
		return fmt.Sprintf("it began ahead of the first step of any Ask, but tells %v", now)
	case now.own == h.poll.given.own:
		return ""
	}
	return p.hasDone(now)
}

// hasDone is what is wrong with a thread that tells that, and has taken a phase over.
func (p *play) hasDone(now told) string {
	if now.own.Mode == api.ModePrep && uint64(now.alpha) != watch.Word(p.m, api.AtAlpha) {
		return fmt.Sprintf("it knows the sentinel %d", now.alpha)
	}
	for _, at := range now.r.L[:now.r.N] {
		w := watch.Word(p.m, at)
		switch {
		case at == 0:
		case now.own.Mode == api.ModeRoots && watch.ToShade(w, now.own.Mark):
			return fmt.Sprintf("its root %d has not the mark", at)
		case now.own.Mode == api.ModeFix && watch.Home(w, at) != at:
			return fmt.Sprintf("its root %d was moved", at)
		}
	}
	return ""
}

// count counts what a step of a thread's Poll has met.
func (p *play) count(h *thread, did api.Access, done bool) {
	first, object := len(h.poll.met) == 1, did.At >= p.plan.Heap
	for name, is := range map[string]bool{
		pollAhead:   first && !h.behind,
		pollAgain:   first && h.behind && h.again,
		pollTakes:   done && !first,
		headerFails: did == watch.CAS(did.At, false) && object,
		listFails:   did == watch.CAS(api.AtGrey, false),
		hasMark:     object && p.q.Mode == api.ModeRoots && did.Op == 1 && !watch.ToShade(watch.Word(p.m, did.At), p.q.Mark),
		rootMoves:   object && p.q.Mode == api.ModeFix && watch.Tag(watch.Word(p.m, did.At)) == api.TagMoved,
		rootStays:   object && p.q.Mode == api.ModeFix && watch.Tag(watch.Word(p.m, did.At)) == api.TagNone,
	} {
		if is {
			p.tally[name]++
		}
	}
}

func (p *play) stepAsk() string {
	if p.ask.x == nil {
		p.q, p.todo = p.todo[0], p.todo[1:]
		p.ready()
		p.ask, p.late = beginAsk(p.plan, p.q), 0
	}
	waits := p.waits()
	did, done, wrong := p.ask.step(p.m)
	switch {
	case wrong != "":
	case done && len(waits) != 0:
		wrong = fmt.Sprintf("the threads %d have not acknowledged", waits)
	case done:
		wrong = p.isDone()
		p.ask, p.asked = ask{}, false
	case !p.asked:
		p.asked = true
	case len(waits) == 0:
		if p.late++; p.late >= len(p.threads) {
			wrong = fmt.Sprintf("all have acknowledged, but it is not done in %d looks", p.late)
		}
	default:
		p.countLook(waits, did)
	}
	if wrong != "" {
		return fmt.Sprintf("an Ask of %v, that does %v, done: %t: %s", p.q, did, done, wrong)
	}
	return ""
}

// waits are the threads that have not acknowledged what is asked for.
func (p *play) waits() []int {
	var l []int
	for k := range p.threads {
		if watch.Word(p.m, api.AtAcks+k) != uint64(p.q.No) {
			l = append(l, k)
		}
	}
	return l
}

func (p *play) countLook(waits []int, did api.Access) {
	last := len(p.threads) - 1
	for name, is := range map[string]bool{
		lookWaits:  slices.Contains(waits, did.At-api.AtAcks),
		lookFinds:  !slices.Contains(waits, did.At-api.AtAcks),
		waitsFirst: slices.Equal(waits, []int{0}) && last > 0,
		waitsLast:  slices.Equal(waits, []int{last}) && last > 0,
	} {
		if is {
			p.tally[name]++
		}
	}
}

// ready is what the collector has done ahead of asking for the phase: alpha is another one, or the first objects were moved.
func (p *play) ready() {
	switch p.q.Mode {
	case api.ModePrep:
		p.m.Store(api.AtAlpha, uint64(p.q.No)*3)
	case api.ModeSweep: // all that is grey was looked through
		p.m.Store(api.AtGrey, watch.Behind(watch.Word(p.m, api.AtGrey), 0))
		for k, at := range objects {
			p.m.Store(at, watch.Object(0, k, watch.Mark(watch.Word(p.m, at))))
		}
	case api.ModeFix:
		for k, at := range objects[:2] {
			w := watch.Word(p.m, at)
			p.m.Store(copies[k], watch.Object(0, k, watch.Mark(w)))
			p.m.Store(at, watch.Moved(0, k, watch.Mark(w), copies[k]))
		}
	}
	p.m.Take()
}

// isDone is what is wrong if an Ask is done: each thread works in the phase, and all have done what it wants.
func (p *play) isDone() string {
	for k, h := range p.threads {
		if h.now.own != p.q {
			return fmt.Sprintf("the thread %d works in %v", k, h.now.own)
		}
		if wrong := p.hasDone(h.now); wrong != "" {
			return fmt.Sprintf("the thread %d: %s", k, wrong)
		}
	}
	if p.q.Mode != api.ModeRoots {
		return ""
	}
	words := watch.Words(p.m)
	var want []int
	for _, at := range append(slices.Clone(objects), copies...) {
		if words[at]>>8%2 == 1 {
			want = append(want, at)
		}
	}
	if got := slices.Sorted(slices.Values(watch.Listed(words, api.AtGrey))); !slices.Equal(got, want) {
		return fmt.Sprintf("the list has %d, grey are %d", got, want)
	}
	return ""
}

// end is what is wrong when all phases were asked for, and all threads are done.
func (p *play) end() string {
	if len(p.todo) != 0 || p.ask.x != nil {
		return "the collector is not done"
	}
	return ""
}

// Key is another one of each two plays that go on in other ways: what a machine does next hangs on what its steps have met.
func (p *play) Key() string {
	k := fmt.Sprint(watch.Words(p.m), len(p.todo), p.ask.met, p.asked, p.late)
	for _, h := range p.threads {
		k += fmt.Sprint("; ", h.now, h.poll.met, h.behind, h.again)
	}
	return k
}

// behind are the phases that are asked for behind one, in these modes. With ModeShade the mark turns, with ModeSweep the set of lists.
func behind(now api.Phase, modes ...int) []api.Phase {
	var l []api.Phase
	for _, mode := range modes {
		now = other(now)
		now.Mode = mode
		switch mode {
		case api.ModeShade:
			now.Mark = 1 - now.Mark
		case api.ModeSweep:
			now.List = 1 - now.List
		}
		l = append(l, now)
	}
	return l
}

// P16.1, P16.2, P16.3, in every order of the steps of a few threads that poll again and again while handshakes follow one another: each step does what the chapter says; an Ask is done just when each thread has acknowledged; a Poll that begins behind its first step acknowledges, and has done what the phase wants; one that begins ahead of it does not.
func TestEveryOrder(t *testing.T) {
	a, b, moved := objects[0], objects[2], objects[1]
	plays := []struct {
		no    int
		modes []int
		have  []api.Roots
	}{
		{0, []int{1, 2, 4}, []api.Roots{rootsOf(a, 0, a)}},
		{0, []int{1, 3, 4, 6, 7, 0}, []api.Roots{rootsOf(a), rootsOf()}},
		{api.Wrap - 2, []int{1, 3, 4}, []api.Roots{rootsOf(a), rootsOf(), rootsOf(b)}},
		{api.Wrap - 2, []int{1, 2}, []api.Roots{rootsOf(a, b), rootsOf(b, a)}},
		{5, []int{1, 2}, []api.Roots{rootsOf(a), rootsOf(a), rootsOf()}},
		{5, []int{5, 6, 8}, []api.Roots{rootsOf(a, moved), rootsOf(0, b, a)}},
		{5, []int{8, 0, 5}, []api.Roots{rootsOf(moved), rootsOf(b), rootsOf()}},
		{api.Wrap - 1, []int{2, 2}, []api.Roots{rootsOf(a), rootsOf(a)}},
	}
	tallies := make([]watch.Tally, len(plays))
	t.Run("plays", func(t *testing.T) {
		for i, x := range plays {
			tallies[i] = watch.Tally{} // one each, as they go on side by side
			t.Run("", func(t *testing.T) {
				t.Parallel()
				now := api.Phase{No: x.no}
				watch.EveryOrder(t, begun(t, tallies[i], now, behind(now, x.modes...), x.have...), (*play).end)
			})
		}
	})
	watch.Together(tallies...).Check(t, cases()...)
}

// P16.1, P16.2, P16.3, in orders that a fixed seed gives, of many threads whose roots change between their Polls, over several cycles.
func TestManyOrders(t *testing.T) {
	all := watch.Tally{}
	for seed := range 60 {
		r := rand.New(rand.NewSource(int64(seed)))
		now := api.Phase{No: []int{0, 77, api.Wrap - 5}[r.Intn(3)], Mark: r.Intn(2), List: r.Intn(2)}
		var modes []int
		for range 1 + r.Intn(3) {
			modes = append(modes, 1, 2, 3, 3, 4, 5, 6, 7, 8, 0)
		}
		p := begun(t, all, now, behind(now, modes...), severalRoots(r)...)
		p.changes = r.Intn(4) != 0
		watch.AnyOrder(t, p, (*play).end, r.Intn)
		if t.Failed() {
			t.Fatalf("seed %d", seed)
		}
	}
	all.Check(t, cases()...)
}

// severalRoots are those of some threads, many of the same objects; some are 0.
func severalRoots(r *rand.Rand) []api.Roots {
	l := make([]api.Roots, 1+r.Intn(8))
	for i := range l {
		for range r.Intn(api.MaxRoots + 1) {
			l[i].L[l[i].N] = append(objects, 0)[r.Intn(5)]
			l[i].N++
		}
	}
	return l
}

// P16.1, P16.2: however the phase, alpha, headers, the list and acknowledgements change between the steps of several Polls and Asks, each step does what the chapter says by what the words are then.
func TestAnyWords(t *testing.T) {
	ends, modes := map[int]int{}, map[int]int{}
	for seed := range 60 {
		r := rand.New(rand.NewSource(int64(seed)))
		p, m := made(t, 3, api.Phase{No: 1})
		polls, asks := make([]poll, 4), make([]ask, 2)
		for k := range 1500 {
			var did api.Access
			var done bool
			var wrong string
			if i := r.Intn(6); i < 4 {
				y := &polls[i]
				if y.x == nil || len(y.met) > 80 {
					*y = beginPoll(p, r.Intn(3), someTold(r))
				}
				if did, done, wrong = y.step(m); done && wrong == "" {
					ends[len(y.met)]++
					modes[watch.OfPhase(y.met[0]).Mode]++
					watch.CheckDone(t, y.x, m)
					*y = poll{}
				}
			} else {
				y := &asks[i-4]
				if y.x == nil {
					*y = beginAsk(p, somePhase(r))
				}
				if did, done, wrong = y.step(m); done && wrong == "" {
					watch.CheckDone(t, y.x, m)
					*y = ask{}
				}
			}
			if wrong != "" || m.Traps() != 0 {
				t.Fatalf("seed %d, change %d: %v: %s, %d traps", seed, k, did, wrong, m.Traps())
			}
			change(r, m)
		}
	}
	for n := 1; n <= 40; n++ {
		if ends[n] == 0 {
			t.Errorf("none was done in %d steps", n)
		}
	}
	for mode := range 16 {
		if modes[mode] == 0 {
			t.Errorf("none was done in the mode %d", mode)
		}
	}
}

// somePhase is one of few Nos, most often in a mode that wants something.
func somePhase(r *rand.Rand) api.Phase {
	mode := []int{2, 2, 2, 5, 8, 8, r.Intn(16)}[r.Intn(7)]
	return api.Phase{No: r.Intn(4), Mode: mode, Mark: r.Intn(2), List: r.Intn(2)}
}

// someTold is what a thread may know; some have more roots than there may be.
func someTold(r *rand.Rand) told {
	l := []int{0, white, black, old, now, elder, free, tagged, feigned, listed, twice, gone}
	x := told{own: somePhase(r), alpha: r.Intn(4)}
	x.r.N = r.Intn(11) - 1
	for k := range x.r.L {
		x.r.L[k] = l[r.Intn(len(l))]
	}
	return x
}

// change lets a word be another one, or does nothing.
func change(r *rand.Rand, m *mem.Memory) {
	l := []int{white, black, old, now, elder, free, tagged, listed, twice, gone}
	at := l[r.Intn(len(l))]
	switch r.Intn(20) {
	case 0:
		m.Store(api.AtPhase, watch.Phase(somePhase(r))|uint64(r.Intn(2))<<50)
	case 1:
		m.Store(api.AtAlpha, r.Uint64())
	case 2, 3:
		m.Store(at, watch.Tagged(0, r.Intn(4), r.Intn(2), []int{0, 2, 2, r.Intn(8)}[r.Intn(4)], l[r.Intn(len(l))]))
	case 4:
		m.Store(at, uint64(r.Intn(1<<24))|uint64(r.Intn(2))<<40)
	case 5:
		m.Store(api.AtGrey, watch.Top([]int{0, at}[r.Intn(2)], r.Intn(3)))
	case 6:
		m.Store(api.AtAcks+r.Intn(3), uint64(r.Intn(4)))
	}
}
