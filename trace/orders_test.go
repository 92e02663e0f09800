package trace

import (
	"fmt"
	"math/rand"
	"slices"
	"testing"

	"flit/api"
	"flit/grey"
	"flit/mem"
	"flit/plan"
	"flit/shake"
	"flit/watch"
)

// stand is where a Trace's work stands behind the accesses that have been answered.
type stand struct {
	asked api.Phase // for which it was asked last
	from  int       // behind how many of them it began with the step 1
	waits bool      // whether threads are looked at
}

// tracing is what the chapter says of a Trace.
func tracing(threads int, now api.Phase, s *stand) watch.Work {
	return func(t *watch.Tale) api.Out {
		*s = stand{asked: now}
		for {
			s.from = t.Answered()
			if at, count := t.TakeGrey(); at != 0 {
				for k := range count {
					if v := watch.Value(t.Load(at + 1 + k)); watch.Refers(v) {
						t.Shade(v.N, now.Mark)
					}
				}
				continue
			}
			q := api.Phase{No: (s.asked.No + 1) % (1 << 40), Mode: api.ModeTerm, Mark: now.Mark, List: now.List}
			t.Store(api.AtPhase, watch.Phase(q))
			s.asked, s.waits = q, true
			t.Wait(threads, q.No)
			s.waits = false
			if t.Load(api.AtGrey)%4096 == 0 {
				return api.Out{}
			}
		}
	}
}

// beside is a Trace that is held against the chapter at each step.
type beside struct {
	x       *Trace
	threads int
	now     api.Phase
	met     []uint64 // what its accesses so far answered, from when it began with the step 1 last
}

func begin(p api.Plan, now api.Phase) beside {
	return beside{x: New(p, now), threads: p.Threads, now: now}
}

// step does one: which access that was, whether it is done now, and what is wrong with it, or nothing. What goes on as if it began now needs nothing of what came ahead; a look at a thread that found nothing is as if it had not been.
func (y *beside) step(m *mem.Memory) (did api.Access, done bool, wrong string) {
	var s stand
	b := watch.Beside{X: watch.Quiet{Machine: y.x}, Work: tracing(y.threads, y.now, &s), Met: y.met}
	did, done, wrong = b.Step(m)
	if got := y.x.Phase(); wrong == "" && got != s.asked {
		wrong = fmt.Sprintf("Phase is %v, want %v", got, s.asked)
	}
	switch {
	case s.waits && did.Op == 1 && b.Met[len(b.Met)-1] != uint64(s.asked.No):
	case s.from == len(b.Met):
		y.now, y.met = s.asked, nil
	default:
		y.met = b.Met
	}
	return did, done, wrong
}

// set is of objects, each by its number, from 1 on.
type set uint64

func setOf(l ...int) set {
	var s set
	for _, n := range l {
		s |= 1 << n
	}
	return s
}

func (s set) has(n int) bool { return s>>n&1 != 0 }

// scene is what a play begins with. Objects are said by their numbers, as they are in what fields refer to.
type scene struct {
	now    api.Phase // which was asked for last
	fields [][]api.Val
	grey   []int   // these are grey
	black  []int   // these are not, but have the mark
	roots  [][]int // of each thread
	todo   [][]int // what it shades
	late   []int   // these threads work in another phase yet
	strict bool    // in ModeTerm threads shade just what can be come to from what was shaded, or grey
}

// reach is what can be come to from these.
func (s scene) reach(from set) set {
	for was := set(0); was != from; {
		was = from
		for n, l := range s.fields {
			for _, v := range l {
				if from.has(n+1) && watch.Refers(v) {
					from |= setOf(v.N)
				}
			}
		}
	}
	return from
}

// thread polls, and shades an object between two Polls, till it has nothing more to shade; then it polls on.
type thread struct {
	own    api.Phase
	roots  api.Roots
	todo   []int
	poll   *shake.Poll // nil: none is under way
	shade  *grey.Shade // likewise
	marked int         // what was given the mark by what is under way, and is not on the list yet; 0: nothing
	polled bool        // what was done last was a Poll
}

func (h *thread) busy() bool { return h.poll != nil || h.shade != nil }

// What a Trace has come to.
const (
	looking = iota
	asking
	asked
	ended
)

// play is threads, and a Trace, which is the last actor. Nobody writes.
type play struct {
	scene
	plan    api.Plan
	m       *mem.Memory
	threads []thread
	trace   beside
	stage   int
	asks    int
	seeds   set      // what was grey at first, or was brought onto the list by a thread
	strays  set      // what was given the mark by a thread
	words   []uint64 // as they were at first
	tally   watch.Tally
}

// What plays are for.
const (
	nextFails   = "a list that is another one at a Next's CAS"
	headerFails = "a header that is another one at a Shade's CAS"
	listFails   = "a list that is another one there"
	fieldNone   = "a field that refers to nothing"
	fieldMarked = "one that refers to what has the mark"
	fieldStray  = "one that refers to what a thread has given the mark, and not listed"
	fieldWhite  = "one that refers to what is shaded then"
	askUnder    = "an Ask that begins while a thread has given the mark, and not listed"
	greyUnder   = "something that is listed while an Ask is under way"
	greyBehind  = "something that is listed behind an Ask, ahead of the last step"
	goesOn      = "a Trace that goes on behind an Ask"
	asksOften   = "a third Ask of a Trace"
	takesRoots  = "a Poll that takes ModeRoots over"
	takesTerm   = "one that takes ModeTerm over"
	shadesTerm  = "a thread that shades in ModeTerm"
	passesTerm  = "one that finds the mark in ModeTerm"
	endsUnder   = "a Trace that is done while a thread has given the mark, and not listed"
	staysWhite  = "an object that does not get the mark"
)

// strictCases are what strict plays meet, freeCases what the others meet, too, and rareCases what they seldom do.
func strictCases() []string {
	return []string{
		nextFails, headerFails, listFails, fieldNone, fieldMarked, fieldStray, fieldWhite,
		askUnder, greyUnder, goesOn, takesRoots, takesTerm, passesTerm, staysWhite,
	}
}

func freeCases() []string { return []string{asksOften, shadesTerm} }
func rareCases() []string { return []string{greyBehind, endsUnder} }

// place is where an object stands.
func (p *play) place(n int) int { return p.plan.Heap + 4*(n-1) }

// number is which object stands there.
func (p *play) number(at int) int { return (at-p.plan.Heap)/4 + 1 }

// begun is a play of that scene.
func begun(t *testing.T, l watch.Tally, s scene) *play {
	t.Helper()
	pl, e := plan.New(len(s.roots), (len(s.fields)+7)/8)
	if e != api.OK {
		t.Fatalf("plan.New: error %d", e)
	}
	m, e := mem.New(pl.Size)
	if e != api.OK {
		t.Fatalf("mem.New: error %d", e)
	}
	p := &play{scene: s, plan: pl, m: m, seeds: setOf(s.grey...), tally: l, trace: begin(pl, s.now)}
	for k, fields := range s.fields {
		mark := 1 - s.now.Mark
		if slices.Contains(s.black, k+1) {
			mark = s.now.Mark
		}
		fields = slices.Clone(fields)
		for i, v := range fields {
			if watch.Refers(v) {
				fields[i].N = p.place(v.N)
			}
		}
		lay(m, p.place(k+1), mark, fields...)
	}
	var first []int
	for _, n := range s.grey {
		first = append(first, p.place(n))
	}
	list(m, 1<<40-2, s.now.Mark, first...)
	m.Store(api.AtPhase, watch.Phase(s.now))
	for i, l := range s.roots {
		p.threads = append(p.threads, p.thread(i, l))
	}
	m.Take()
	p.words = watch.Words(m)
	return p
}

// thread is the thread i, with these roots.
func (p *play) thread(i int, l []int) thread {
	h := thread{own: p.now, todo: p.todo[i]}
	if slices.Contains(p.late, i) {
		h.own.No = (p.now.No + 1<<40 - 1) % (1 << 40)
		h.own.Mode = api.ModeShade
	}
	for _, n := range l {
		h.roots.L[h.roots.N] = p.place(n)
		h.roots.N++
	}
	p.m.Store(api.AtAcks+i, uint64(h.own.No))
	return h
}

// Clone goes its own way, but for the tally.
func (p *play) Clone() *play {
	c := *p
	c.m, c.threads = p.m.Clone(), slices.Clone(p.threads)
	for i := range c.threads {
		h := &c.threads[i]
		if h.poll != nil {
			x := *h.poll
			h.poll = &x
		}
		if h.shade != nil {
			x := *h.shade
			h.shade = &x
		}
	}
	x := *c.trace.x
	c.trace.x = &x
	return &c
}

// Actors is how many there are, with the Trace.
func (p *play) Actors() int { return len(p.threads) + 1 }

// Idle tells whether an actor has nothing to do any more: threads poll till the Trace is done.
func (p *play) Idle(i int) bool {
	if i == len(p.threads) {
		return p.stage == ended
	}
	return p.stage == ended && !p.threads[i].busy() && len(p.threads[i].todo) == 0
}

// Step is one of the actor i: what is wrong with it, or nothing.
func (p *play) Step(i int) string {
	wrong := ""
	if i == len(p.threads) {
		wrong = p.stepTrace()
	} else {
		p.stepThread(i)
	}
	if wrong == "" && p.m.Traps() != 0 {
		wrong = "it is a trap"
	}
	if wrong == "" {
		wrong = p.holds()
	}
	return wrong
}

// holds is what is wrong with the words: but the mark, the grey bit and the link of objects, the list, the phase and the threads' words nothing changes.
func (p *play) holds() string {
	const may uint64 = 1<<7 | 1<<8 | 0xfff<<12
	for a, w := range watch.Words(p.m) {
		diff := w ^ p.words[a]
		if a >= p.plan.Heap && a%4 == 0 {
			diff &^= may
		}
		if diff != 0 && a >= p.plan.Table {
			return fmt.Sprintf("the word %d is %#x, was %#x", a, w, p.words[a])
		}
	}
	return ""
}

func (p *play) stepThread(i int) {
	h := &p.threads[i]
	if !h.busy() {
		p.begin(h, i)
	}
	var over bool
	if h.poll != nil {
		over = h.poll.Step(p.m)
	} else {
		over = h.shade.Step(p.m)
	}
	for _, did := range p.m.Take() {
		p.follow(h, did)
	}
	if !over {
		return
	}
	h.polled = h.poll != nil
	if h.polled {
		was := h.own
		h.own, _, _ = h.poll.Result()
		p.met(takesRoots, h.own != was && h.own.Mode == api.ModeRoots)
		p.met(takesTerm, h.own != was && h.own.Mode == api.ModeTerm)
	}
	h.poll, h.shade = nil, nil
}

// begin lets a thread begin what it does next.
func (p *play) begin(h *thread, i int) {
	for h.polled && len(h.todo) > 0 {
		n := h.todo[0]
		h.todo = h.todo[1:]
		if p.strict && h.own.Mode == api.ModeTerm && !p.reach(p.seeds).has(n) {
			continue // it has no way to come to it
		}
		if h.own.Mode == api.ModeTerm {
			white := watch.ToShade(watch.Word(p.m, p.place(n)), p.now.Mark)
			p.met(shadesTerm, white)
			p.met(passesTerm, !white)
		}
		h.shade = grey.NewShade(p.place(n), p.now.Mark)
		return
	}
	h.poll = shake.NewPoll(p.plan, i, h.own, 0, h.roots)
}

// follow does with the sets what an access of a thread did.
func (p *play) follow(h *thread, did api.Access) {
	switch did {
	case watch.CAS(api.AtGrey, true):
		p.seeds |= setOf(h.marked)
		h.marked = 0
		p.met(greyUnder, p.stage == asking)
		p.met(greyBehind, p.stage == asked)
	case watch.CAS(did.At, true):
		h.marked = p.number(did.At)
		p.strays |= setOf(h.marked)
	}
	p.countFails(did)
}

func (p *play) countFails(did api.Access) {
	p.met(listFails, did == watch.CAS(api.AtGrey, false))
	p.met(headerFails, did.At >= p.plan.Heap && did == watch.CAS(did.At, false))
}

// met counts what was met.
func (p *play) met(name string, is bool) {
	if is {
		p.tally[name]++
	}
}

func (p *play) stepTrace() string {
	ahead := len(p.trace.met)
	did, over, wrong := p.trace.step(p.m)
	if wrong == "" {
		p.met(nextFails, did == watch.CAS(api.AtGrey, false) && ahead == 2)
		if ahead > 4 {
			p.countFails(did)
		}
		p.countField(did)
		wrong = p.comeTo(did, over)
	}
	if wrong != "" {
		return fmt.Sprintf("the Trace, which does %v, done: %t: %s", did, over, wrong)
	}
	return ""
}

// countField counts what a Trace's look at a field has met.
func (p *play) countField(did api.Access) {
	if did.At < p.plan.Heap || did.At%4 == 0 {
		return
	}
	v := watch.Value(watch.Word(p.m, did.At))
	if !watch.Refers(v) {
		p.met(fieldNone, true)
		return
	}
	white := watch.ToShade(watch.Word(p.m, v.N), p.now.Mark)
	stray := slices.ContainsFunc(p.threads, func(h thread) bool { return h.marked == p.number(v.N) })
	p.met(fieldWhite, white)
	p.met(fieldMarked, !white)
	p.met(fieldStray, stray)
}

// under tells whether a thread has given something the mark, and not listed it.
func (p *play) under() bool {
	return slices.ContainsFunc(p.threads, func(h thread) bool { return h.marked != 0 })
}

// comeTo lets a Trace have come to where it is behind that access: what is wrong with that, or nothing.
func (p *play) comeTo(did api.Access, over bool) string {
	was := p.stage
	switch {
	case did == watch.Store(api.AtPhase):
		p.stage = asking
		p.asks++
		p.met(askUnder, p.under())
		p.met(asksOften, p.asks == 3)
	case was == asking && did.At == api.AtAcks+len(p.threads)-1 && watch.Word(p.m, did.At) == uint64(p.trace.x.Phase().No):
		p.stage = asked
	case was == asked && !over:
		p.stage = looking
		p.met(goesOn, true)
	}
	if !over {
		return ""
	}
	p.stage = ended
	p.met(endsUnder, p.under())
	if was != asked {
		return "no Ask has come to its end ahead of that"
	}
	return p.isDone()
}

// isDone is what is wrong if a Trace is done.
func (p *play) isDone() string {
	words, q := watch.Words(p.m), p.trace.x.Phase()
	want := api.Phase{No: (p.now.No + p.asks) % (1 << 40), Mode: api.ModeTerm, Mark: p.now.Mark, List: p.now.List}
	if q != want || watch.OfPhase(words[api.AtPhase]) != want {
		return fmt.Sprintf("Phase is %v behind %d Asks from %v on", q, p.asks, p.now)
	}
	for i, h := range p.threads {
		if words[api.AtAcks+i] != uint64(q.No) {
			return fmt.Sprintf("the thread %d has acknowledged %d, not %d", i, words[api.AtAcks+i], q.No)
		}
		if p.strict && h.marked != 0 {
			return fmt.Sprintf("the thread %d has given %d the mark, and not listed it", i, h.marked)
		}
	}
	if l := watch.Listed(words, api.AtGrey); len(l) != 0 {
		return fmt.Sprintf("on the list are %d", l)
	}
	return p.marks(words)
}

// marks is what is wrong with the marks if a Trace is done: each object has it that can be come to from a grey one, or from one that was shaded, and no other one that had not.
func (p *play) marks(words []uint64) string {
	must, may := p.reach(p.seeds), p.reach(p.seeds|p.strays)|setOf(p.black...)
	for k := range p.fields {
		n := k + 1
		w := words[p.place(n)]
		has := w%4 == api.CellObject && watch.Mark(w) == p.now.Mark // what is free has no mark
		switch {
		case must.has(n) && !has:
			return fmt.Sprintf("the object %d has not the mark", n)
		case has && !may.has(n):
			return fmt.Sprintf("the object %d has the mark", n)
		case w>>8%2 == 1 && !slices.ContainsFunc(p.threads, func(h thread) bool { return h.marked == n }):
			return fmt.Sprintf("the object %d is grey", n)
		}
		p.met(staysWhite, !has)
	}
	return ""
}

// end is what is wrong when all have nothing more to do.
func (p *play) end() string {
	if p.stage != ended {
		return "the Trace is not done"
	}
	if p.strict {
		return p.isDone()
	}
	return ""
}

// Key is another one of each two plays that go on in other ways: what a machine does next hangs on what its steps have met.
func (p *play) Key() string {
	k := fmt.Sprint(watch.Words(p.m), p.trace.now, p.trace.met, p.stage, p.seeds, p.strays, p.asks)
	for _, h := range p.threads {
		k += fmt.Sprint("; ", h.own, len(h.todo), h.marked, h.polled)
		if h.poll != nil {
			k += fmt.Sprint(" polls ", *h.poll)
		}
		if h.shade != nil {
			k += fmt.Sprint(" shades ", *h.shade)
		}
	}
	return k
}

// refs are fields that refer to these objects; 0 is none.
func refs(l ...int) []api.Val {
	var fields []api.Val
	for _, n := range l {
		fields = append(fields, refTo(n))
	}
	return fields
}

// rootsAt is the phase in which these plays begin.
func rootsAt(no, mark int) api.Phase {
	return api.Phase{No: no, Mode: api.ModeRoots, Mark: mark, List: mark}
}

// scenes are small ones.
func scenes() []scene {
	return []scene{
		{ // a root, and what it refers to, while nothing is grey
			now:    rootsAt(2, 1),
			fields: [][]api.Val{refs(2), refs(0, 1), refs(1)},
			roots:  [][]int{{1}}, todo: [][]int{{2}}, late: []int{0}, strict: true,
		},
		{ // what a thread shades refers to what the Trace goes through
			now:    rootsAt(1<<40-1, 0),
			fields: [][]api.Val{{{N: 2}, refTo(2)}, refs(3), refs(2), nil},
			grey:   []int{1},
			roots:  [][]int{{}}, todo: [][]int{{3, 2}}, strict: true,
		},
		{ // two threads with the same root
			now:    rootsAt(1<<40-2, 1),
			fields: [][]api.Val{refs(2), nil, nil},
			roots:  [][]int{{1}, {1}}, todo: [][]int{nil, nil}, late: []int{0, 1}, strict: true,
		},
		{ // two threads, each with a root of its own, of which one is late
			now:    rootsAt(7, 0),
			fields: [][]api.Val{nil, refs(1), nil},
			grey:   []int{3},
			roots:  [][]int{{1}, {2}}, todo: [][]int{nil, {2}}, late: []int{1}, strict: true,
		},
		{ // one of two threads shades what the Trace shades
			now:    rootsAt(7, 1),
			fields: [][]api.Val{refs(2), nil, {{N: 1}}},
			grey:   []int{1}, black: []int{3},
			roots: [][]int{{}, {}}, todo: [][]int{{2}, nil}, strict: true,
		},
		{ // one shades what nobody else comes to, again and again
			now:    rootsAt(0, 1),
			fields: [][]api.Val{nil, nil, refs(1), nil},
			roots:  [][]int{{}}, todo: [][]int{{1, 2, 3}},
		},
		{
			now:    rootsAt(1<<40-1, 0),
			fields: [][]api.Val{nil, refs(1), nil},
			roots:  [][]int{{}, {}}, todo: [][]int{{1}, {2}},
		},
		{ // two threads with roots and more, beside what is grey
			now:    rootsAt(2, 1),
			fields: [][]api.Val{refs(2, 3), nil, refs(2), refs(0, 1)},
			grey:   []int{4},
			roots:  [][]int{{1}, {2}}, todo: [][]int{{3}, nil}, late: []int{0, 1}, strict: true,
		},
		{ // three threads, two of which shade what another thread has as a root
			now:    rootsAt(1<<40-2, 0),
			fields: [][]api.Val{refs(2), refs(1), nil},
			black:  []int{3},
			roots:  [][]int{{1}, {3}, {}}, todo: [][]int{nil, nil, {2}}, late: []int{0, 1}, strict: true,
		},
		{ // two that shade whatever they like, whenever they like
			now:    rootsAt(1<<40-2, 1),
			fields: [][]api.Val{refs(2), nil, refs(1), nil},
			roots:  [][]int{{1}, {}}, todo: [][]int{{3}, {2, 3}}, late: []int{0},
		},
		{ // no thread has anything
			now:    rootsAt(3, 1),
			fields: [][]api.Val{refs(2, 1, 2), nil, refs(1)},
			grey:   []int{1}, roots: [][]int{{}, {}, {}}, todo: [][]int{nil, nil, nil}, late: []int{1}, strict: true,
		},
	}
}

// P17.1, P17.2, in every order of the steps of a Trace and of a few threads that poll, and shade: each step of the Trace does what the chapter says; when it is done nothing is grey, and just those objects have the mark that had it, or can be come to from a grey one or from what was shaded.
func TestEveryOrder(t *testing.T) {
	l := scenes()
	tallies := make([]watch.Tally, len(l))
	t.Run("plays", func(t *testing.T) {
		for i, s := range l {
			tallies[i] = watch.Tally{} // one each, as they go on side by side
			t.Run("", func(t *testing.T) {
				t.Parallel()
				watch.EveryOrder(t, begun(t, tallies[i], s), (*play).end)
			})
		}
	})
	all := watch.Together(tallies...)
	all.Check(t, strictCases()...)
	all.Check(t, freeCases()...)
	all.Check(t, rareCases()...)
}

// someScene is one of some objects, and of some threads with many of these.
func someScene(r *rand.Rand) scene {
	n := 3 + r.Intn(38)
	s := scene{
		now:    rootsAt([]int{0, 77, 1<<40 - 2}[r.Intn(3)], r.Intn(2)),
		fields: make([][]api.Val, n),
		strict: r.Intn(3) != 0,
	}
	for k := range s.fields {
		for range r.Intn(4) {
			s.fields[k] = append(s.fields[k], someVal(r, n))
		}
		switch r.Intn(9) {
		case 0:
			s.grey = append(s.grey, k+1)
		case 1:
			s.black = append(s.black, k+1)
		}
	}
	s.mend()
	jobs := 12
	if !s.strict {
		jobs = 60
	}
	for i := range 1 + r.Intn(5) {
		s.roots = append(s.roots, some(r, api.MaxRoots, watch.UpTo(n)))
		s.todo = append(s.todo, some(r, jobs, watch.UpTo(n)))
		if r.Intn(2) == 0 {
			s.late = append(s.late, i)
		}
	}
	return s
}

// mend lets nothing that has the mark, and is not grey, refer to what has not: that would not be found.
func (s scene) mend() {
	from := setOf(append(slices.Clone(s.black), s.grey...)...)
	for _, n := range s.black {
		for i, v := range s.fields[n-1] {
			if watch.Refers(v) && !from.has(v.N) {
				s.fields[n-1][i] = api.Val{Kind: api.Empty}
			}
		}
	}
}

// someVal is what a field may have, if there are n objects.
func someVal(r *rand.Rand, n int) api.Val {
	switch r.Intn(5) {
	case 0:
		return api.Val{N: 32 + r.Intn(200)}
	case 1:
		return refTo(0)
	}
	return refTo(1 + r.Intn(n))
}

// some are at most so many objects, those of l being said by a number one less.
func some(r *rand.Rand, most int, l []int) []int {
	var out []int
	for range r.Intn(most + 1) {
		if len(l) > 0 {
			out = append(out, l[r.Intn(len(l))]+1)
		}
	}
	return out
}

// turn begins another cycle: what has not the mark is free, some fields have something else, and the mark is the other one. All threads work in the phase before.
func (p *play) turn(r *rand.Rand) {
	var live []int
	for k := range p.fields {
		if w := watch.Word(p.m, p.place(k+1)); w%4 == api.CellObject && watch.Mark(w) == p.now.Mark {
			live = append(live, k)
			continue
		}
		p.m.Store(p.place(k+1), watch.Free(0, 0))
		p.fields[k] = nil
	}
	q := p.trace.x.Phase()
	p.now = api.Phase{No: (q.No + 6) % (1 << 40), Mode: api.ModeRoots, Mark: 1 - q.Mark, List: 1 - q.List}
	p.m.Store(api.AtPhase, watch.Phase(p.now))
	p.black, p.grey = nil, nil
	p.change(r, live)
	p.grey = some(r, 3, live)
	p.seeds, p.strays = setOf(p.grey...), 0
	for _, n := range p.grey {
		for x := grey.NewShade(p.place(n), p.now.Mark); !x.Step(p.m); {
		}
	}
	for i := range p.threads {
		h := &p.threads[i]
		h.roots, h.todo = api.Roots{}, nil
		for _, n := range some(r, api.MaxRoots, live) {
			h.roots.L[h.roots.N] = p.place(n)
			h.roots.N++
		}
		h.todo = some(r, 12, live)
	}
	p.trace, p.stage, p.asks = begin(p.plan, p.now), looking, 0
	p.m.Take()
	p.words = watch.Words(p.m)
}

// change lets fields of the live refer to others of them.
func (p *play) change(r *rand.Rand, live []int) {
	for _, n := range some(r, 20, live) {
		l := p.fields[n-1]
		if len(l) == 0 {
			continue
		}
		i, to := r.Intn(len(l)), live[r.Intn(len(live))]+1
		l[i] = refTo(to)
		p.m.Store(p.place(n)+1+i, watch.Field(refTo(p.place(to))))
	}
}

// P17.1, P17.2, in orders that a fixed seed gives, of many objects and threads, and of one cycle behind the other.
func TestManyOrders(t *testing.T) {
	strict, free := watch.Tally{}, watch.Tally{}
	for seed := range 100 {
		r := rand.New(rand.NewSource(int64(seed)))
		s := someScene(r)
		p := begun(t, free, s)
		if s.strict {
			p.tally = strict
		}
		for cycle := range 4 {
			watch.AnyOrder(t, p, (*play).end, r.Intn)
			if t.Failed() {
				t.Fatalf("seed %d, cycle %d", seed, cycle)
			}
			if !s.strict {
				break
			}
			p.turn(r)
		}
	}
	strict.Check(t, strictCases()...)
	free.Check(t, freeCases()...)
}

// P17.1: however headers, fields, the list, the phase and acknowledgements change between the steps of several Traces, each step does what the chapter says by what the words are then.
func TestAnyWords(t *testing.T) {
	ends, fields := map[int]int{}, map[int]int{}
	for seed := range 40 {
		r := rand.New(rand.NewSource(int64(seed)))
		p, m := made(t, 2, 1, refTo(white))
		l := make([]beside, 3)
		was := make([]api.Phase, len(l))
		for k := range 2500 {
			i := r.Intn(len(l))
			y := &l[i]
			if y.x == nil || len(y.met) > 80 || r.Intn(400) == 0 {
				was[i] = somePhase(r)
				*y = begin(p, was[i])
			}
			did, over, wrong := y.step(m)
			if wrong != "" { // a trap may be none, as what is read as a field may be anything
				t.Fatalf("seed %d, change %d: %v: %s", seed, k, did, wrong)
			}
			if did.At > first && did.At < white {
				fields[did.At-first-1]++
			}
			if over {
				ends[int(uint64(y.x.Phase().No-was[i].No)%(1<<40))]++
				watch.CheckDone(t, y.x, m)
				*y = beside{}
			}
			if r.Intn(3) == 0 {
				change(r, m, l)
			}
		}
	}
	for n := 1; n <= 3; n++ {
		if ends[n] == 0 {
			t.Errorf("none was done behind %d Asks", n)
		}
	}
	for k := range api.MaxFields {
		if fields[k] == 0 {
			t.Errorf("the field %d of the first one was never read", k)
		}
	}
}

// somePhase is one in which a Trace may begin.
func somePhase(r *rand.Rand) api.Phase {
	return api.Phase{
		No:   []int{0, 1, 1<<40 - 2, 1<<40 - 1}[r.Intn(4)],
		Mode: r.Intn(16),
		Mark: r.Intn(2),
		List: r.Intn(2),
	}
}

// change lets a word be another one; a thread acknowledges most often what one of the Traces waits for.
func change(r *rand.Rand, m *mem.Memory, l []beside) {
	objects := []int{first, white, black, listed, free, wide, moved, more, more + 4}
	at := objects[r.Intn(len(objects))]
	switch r.Intn(9) {
	case 0:
		m.Store(at, headerOf(r.Intn(8), r.Intn(2)))
	case 1:
		m.Store(at, watch.Grey(r.Intn(4), r.Intn(8), r.Intn(2), objects[r.Intn(len(objects))]))
	case 2:
		m.Store(at, uint64(r.Intn(1<<12))|uint64(objects[r.Intn(len(objects))])<<12|uint64(r.Intn(2))<<40)
	case 3, 4:
		v := []api.Val{refTo(at), refTo(at), refTo(0), {N: at}, {Kind: 2 + r.Intn(2), N: at}}[r.Intn(5)]
		a := objects[r.Intn(len(objects))] + 1 + r.Intn(7)
		m.Store(a, watch.Field(v)|uint64(r.Intn(2))<<2)
	case 5:
		m.Store(api.AtGrey, watch.Top([]int{0, 0, at}[r.Intn(3)], r.Intn(3)))
	case 6:
		m.Store(api.AtPhase, r.Uint64())
	default:
		if y := l[r.Intn(len(l))]; y.x != nil {
			m.Store(api.AtAcks+r.Intn(2), uint64(y.x.Phase().No))
		}
	}
}
