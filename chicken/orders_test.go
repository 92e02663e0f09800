package chicken

import (
	"fmt"
	"math/rand"
	"slices"
	"testing"

	"flit/api"
	"flit/mem"
	"flit/watch"
)

// work is what the chapter says of an access, in a mode in which nothing is shaded.
func work(r api.Req, mode int) watch.Work {
	return func(t *watch.Tale) api.Out {
		if r.At == 0 {
			return api.Out{Code: api.ErrNil}
		}
		moves, fix := mode >= api.ModePrep, mode == api.ModeFix
		for {
			h := t.Load(r.At)
			if r.Field < 0 || r.Field >= int(h>>4%8) {
				return api.Out{Code: api.ErrField}
			}
			tag, link := h>>9%8, int(h>>12%4096)
			switch {
			case moves && tag == api.TagMoved:
				return t.Direct(link, r, true, fix)
			case !moves || tag != api.TagTagged:
				return t.Direct(r.At, r, moves, fix)
			case r.Op == api.Read:
				w := t.Load(r.At + 1 + r.Field)
				t.Hit = true
				if g := t.Load(r.At); g>>9%8 == api.TagMoved {
					return t.Direct(int(g>>12%4096), r, true, fix)
				}
				return api.Out{V: watch.Value(w)}
			}
			if t.CAS(r.At, h, h&0x1ff) {
				return t.Direct(r.At, r, true, fix)
			}
		}
	}
}

// begin is an Access that is held against the chapter at each step.
func begin(r api.Req, mode int) watch.Beside {
	return watch.Beside{X: New(r, api.Env{Mode: mode, Mark: 1}), Work: work(r, mode)}
}

// fields is how many each thing of a play has.
const fields = 2

// thing is an object of a play, and the cell of its copy.
type thing struct{ at, to int }

// things are those of all plays. A reference to one is said by where it is at first.
var things = [3]thing{{8, 24}, {12, 28}, {16, 32}}

// original is a value with which a reference says where its object is at first.
func original(v api.Val) api.Val {
	for _, x := range things {
		if v == ref(x.to) {
			return ref(x.at)
		}
	}
	return v
}

// job is an access of a thing.
type job struct {
	op, thing, field int
	exp, with        api.Val
}

// actor does jobs, one behind the other, each in the mode that is asked for when it begins.
type actor struct {
	todo []job
	job  job
	r    api.Req // what the job asks for
	mode int
	b    watch.Beside // X is nil: none is under way
	hits int
	saw  api.Val // what the field had ahead of the last hit
	said api.Val // as its word said it, at the last Load of it
}

func (a *actor) busy() bool { return a.b.X != nil }

// play is actors on things that a collector moves, of these the first few, and what each field must have at each moment.
type play struct {
	m      *mem.Memory
	actors []actor
	moves  int
	met    []uint64 // what the collector's accesses so far answered
	fields [len(things)][fields]api.Val
	stays  [len(things)]bool // a writer has taken its tag away
	since  int               // steps of actors since a job ended
	seen   *seen             // one for all plays
}

// seen tells whether plays had what they are for: how often a tag was taken away, and a CAS of the header found another one; how many Reads of tagged objects were done, and how many went on at the copy; how many accesses went to a copy at once; how often a CAS of a field found another word; how many Swaps were done, were not, and were done of an address that is not the expected one; how many things were moved, and stayed.
type seen struct{ taken, lost, tagged, late, copies, fails, yes, no, canon, moved, stayed int }

func (s *seen) check(t *testing.T) {
	t.Helper()
	for _, n := range []int{s.taken, s.lost, s.tagged, s.late, s.copies, s.fails, s.yes, s.no, s.canon, s.moved, s.stayed} {
		if n == 0 {
			t.Errorf("some case was never met: %+v", *s)
		}
	}
}

// begun is a play of actors with these jobs, on things whose fields have that, of which the first few are moved.
func begun(t *testing.T, s *seen, moves int, has [len(things)][fields]api.Val, todo ...[]job) *play {
	t.Helper()
	m, e := mem.New(40)
	if e != api.OK {
		t.Fatalf("mem.New: error %d", e)
	}
	p := &play{m: m, moves: moves, fields: has, seen: s}
	for i, x := range things {
		m.Store(x.at, watch.Object(0, fields, 1))
		for k, v := range has[i] {
			m.Store(x.at+1+k, watch.Field(v))
		}
	}
	for _, l := range todo {
		p.actors = append(p.actors, actor{todo: l})
	}
	m.Take()
	return p
}

// collect is what a collector does with things while threads go on (chapters 20 to 22), and, in mode, which one it asks for ahead of the next access.
func (p *play) collect(mode *int) watch.Work {
	return func(t *watch.Tale) api.Out {
		l := things[:p.moves]
		*mode = api.ModeSweep
		t.Load(api.AtPhase)
		*mode = api.ModePrep
		for _, x := range l {
			h := t.Load(x.at)
			t.Store(x.to, h)
			t.Store(x.at, h+api.TagTagged<<9+uint64(x.to)<<12)
		}
		*mode = api.ModeCopy
		for _, x := range l {
			copyThing(t, x)
		}
		*mode = api.ModeClose
		t.Load(api.AtPhase)
		*mode = api.ModeFix
		for _, x := range things {
			fixFields(t, x.at)
			fixFields(t, x.to)
		}
		*mode = api.ModePlain
		t.Load(api.AtPhase)
		return api.Out{}
	}
}

// copyThing copies the fields, and lets the copy count, if the tag is still there.
func copyThing(t *watch.Tale, x thing) {
	h := t.Load(x.at)
	if h>>9%8 != api.TagTagged {
		return
	}
	for k := range fields {
		t.Store(x.to+1+k, t.Load(x.at+1+k))
	}
	t.CAS(x.at, h, watch.Moved(0, fields, 1, x.to))
}

// fixFields lets what refers to an object that was moved refer to its copy.
func fixFields(t *watch.Tale, at int) {
	h := t.Load(at)
	if h%4 != api.CellObject || h>>9%8 == api.TagMoved {
		return
	}
	for k := range fields {
		w := t.Load(at + 1 + k)
		v := watch.Value(w)
		if !watch.Refers(v) {
			continue
		}
		if n := watch.Home(t.Load(v.N), v.N); n != v.N {
			t.CAS(at+1+k, w, watch.Field(ref(n)))
		}
	}
}

// tale is where the collector stands, and which mode it asks for.
func (p *play) tale() (*watch.Tale, int) {
	var mode int
	t := watch.Tell(p.collect(&mode), p.met)
	return t, mode
}

// Clone goes its own way, but for what is seen.
func (p *play) Clone() *play {
	c := *p
	c.m, c.actors = p.m.Clone(), slices.Clone(p.actors)
	for i := range c.actors {
		if a := &c.actors[i]; a.busy() {
			a.b.X = copyOf(a.b.X)
		}
	}
	return &c
}

// Actors is how many there are: the last one is the collector.
func (p *play) Actors() int { return len(p.actors) + 1 }

// Idle tells whether an actor has nothing to do any more. The collector waits while a job is under way that was begun in another mode than it asks for.
func (p *play) Idle(i int) bool {
	if i < len(p.actors) {
		return !p.actors[i].busy() && len(p.actors[i].todo) == 0
	}
	t, mode := p.tale()
	return t.Next == nil || slices.ContainsFunc(p.actors, func(a actor) bool { return a.busy() && a.mode != mode })
}

// Step is one of the actor i: what is wrong with it, or nothing.
func (p *play) Step(i int) string {
	if i == len(p.actors) {
		t, _ := p.tale()
		p.met = append(slices.Clip(p.met), t.Next(p.m))
		return p.check()
	}
	a := &p.actors[i]
	if !a.busy() {
		p.begin(a)
	}
	did, done, wrong := a.b.Step(p.m)
	if wrong == "" {
		wrong = p.follow(a, did)
	}
	if wrong == "" && done {
		wrong = p.told(a, did)
	}
	if p.since++; p.since > 48*len(p.actors) {
		wrong = fmt.Sprintf("no job ended in %d steps", p.since)
	}
	if wrong != "" {
		return fmt.Sprintf("%+v in mode %d: %v, done: %t: %s", a.r, a.mode, did, done, wrong)
	}
	if done {
		p.since = 0
		*a = actor{todo: a.todo}
	}
	return p.check()
}

// begin lets an actor begin its next job. In ModeFix, and behind it, its references are fixed.
func (p *play) begin(a *actor) {
	_, mode := p.tale()
	say := func(v api.Val) api.Val {
		if watch.Refers(v) && (mode == api.ModeFix || mode == api.ModePlain) {
			v.N = watch.Home(watch.Word(p.m, v.N), v.N)
		}
		return v
	}
	j := a.todo[0]
	r := api.Req{Op: j.op, At: say(ref(things[j.thing].at)).N, Field: j.field, Exp: say(j.exp), New: say(j.with)}
	*a = actor{todo: a.todo[1:], job: j, r: r, mode: mode, b: begin(r, mode)}
}

// word is that of a field, where its thing is now.
func (p *play) word(thing, field int) int { return p.home(thing) + 1 + field }

func (p *play) home(thing int) int {
	at := things[thing].at
	return watch.Home(watch.Word(p.m, at), at)
}

// follow does with the fields what an access of the actor did.
func (p *play) follow(a *actor, did api.Access) string {
	j := a.job
	at, f := things[j.thing].at, &p.fields[j.thing][j.field]
	if a.b.X.Hit() {
		a.hits++
		a.saw = *f
	}
	if p.m.Traps() != 0 {
		return "it is a trap"
	}
	tag := watch.Word(p.m, at) >> 9 % 8
	switch {
	case did.Op == 1:
		if len(a.b.Met) == 1 && tag == api.TagMoved && did.At == at {
			p.seen.copies++
		}
		if a.b.X.Hit() {
			a.said = watch.Value(watch.Word(p.m, did.At))
		}
	case did == watch.CAS(at, false):
		p.seen.lost++
	case did == watch.CAS(at, true):
		p.seen.taken++
		if p.stays[j.thing] {
			return "the object has stayed already"
		}
		p.stays[j.thing] = true
	case did.Op == 3 && !did.OK:
		p.seen.fails++
	case did.At != p.word(j.thing, j.field):
		return "the field is elsewhere"
	case tag == api.TagTagged && a.mode >= api.ModeCopy:
		return "the object has its tag still"
	default:
		*f = j.with
	}
	return ""
}

// told is whether a job that is done had the result that it would have if it were done at once, at its last hit.
func (p *play) told(a *actor, did api.Access) string {
	j, got := a.job, a.b.X.Result()
	want := api.Out{}
	switch j.op {
	case api.Read:
		want.V = a.saw
		got.V = original(got.V)
		if did == watch.Load(things[j.thing].at) {
			p.seen.tagged++
		} else if a.hits > 1 {
			p.seen.late++
		}
	case api.Swap:
		want.Yes = a.saw == j.exp
		if got.Yes {
			p.seen.yes++
		} else {
			p.seen.no++
		}
		if got.Yes && a.said != a.r.Exp {
			p.seen.canon++
		}
	}
	if a.hits == 0 || got != want {
		return fmt.Sprintf("Result is %v, want %v, at one of %d hits", got, want, a.hits)
	}
	return ""
}

// check holds each field, where its thing is, against what it must have; a thing that stays has no tag.
func (p *play) check() string {
	for i, x := range things {
		for k, v := range p.fields[i] {
			if got := original(watch.Value(watch.Word(p.m, p.word(i, k)))); got != v {
				return fmt.Sprintf("the field %d of %v has %v, want %v", k, x, got, v)
			}
		}
		if h := watch.Word(p.m, x.at); p.stays[i] && h != watch.Object(0, fields, 1) {
			return fmt.Sprintf("%v does not stay: its header is %#x", x, h)
		}
	}
	return ""
}

// finish is whether, when all are done, each thing was moved that was to be, if nobody wrote to it, and is referred to by where it is.
func (p *play) finish() string {
	if t, _ := p.tale(); t.Next != nil {
		return "the collector waits for ever"
	}
	for i, x := range things {
		moved := p.home(i) == x.to
		if moved != (i < p.moves && !p.stays[i]) {
			return fmt.Sprintf("%v is at %d", x, p.home(i))
		}
		if moved {
			p.seen.moved++
		} else if i < p.moves {
			p.seen.stayed++
		}
		for k := range fields {
			v := watch.Value(watch.Word(p.m, p.word(i, k)))
			if watch.Refers(v) && watch.Home(watch.Word(p.m, v.N), v.N) != v.N {
				return fmt.Sprintf("the field %d of %v has %v, which was moved", k, x, v)
			}
		}
	}
	return ""
}

// Key is another one of each two plays that go on in other ways: what a machine does next hangs on what its steps have met.
func (p *play) Key() string {
	k := fmt.Sprint(watch.Words(p.m), p.met, p.stays)
	for _, a := range p.actors {
		k += fmt.Sprint("; ", len(a.todo), a.mode, a.b.Met, a.hits > 0, a.saw)
	}
	return k
}

// Jobs of the first field of the first thing.
func readJob() job               { return job{op: api.Read} }
func writeJob(v api.Val) job     { return job{op: api.Write, with: v} }
func swapJob(exp, v api.Val) job { return job{op: api.Swap, exp: exp, with: v} }

// P13.1, T1, T2, in every order of the steps of a few accesses and of a collector: each step does what the chapter says by what the words are then; each access has the result that it would have if it were done at once at its last hit; each field is at one place, and has what was laid down last; who writes to a tagged object takes the tag away first, and then it stays.
func TestEveryOrder(t *testing.T) {
	self, other, none := ref(things[0].at), ref(things[1].at), ref(0)
	elsewhere := func(j job) job {
		j.field = 1
		return j
	}
	var all seen
	for _, todo := range [][][]job{
		{{readJob(), readJob()}},
		{{writeJob(scalar(6)), readJob()}},
		{{readJob()}, {writeJob(scalar(6))}},
		{{readJob()}, {elsewhere(writeJob(self))}},
		{{writeJob(scalar(6))}, {writeJob(other)}},
		{{writeJob(none)}, {elsewhere(writeJob(scalar(6)))}},
		{{swapJob(self, none)}, {swapJob(self, scalar(6))}},
		{{swapJob(self, none)}, {swapJob(none, self)}},
		{{swapJob(scalar(5), self)}, {readJob()}},
		{{swapJob(self, self)}, {readJob()}},
	} {
		for _, v := range []api.Val{scalar(5), self} {
			has := [len(things)][fields]api.Val{{v, none}, {self, none}, {none, scalar(3)}}
			p := begun(t, &all, 1, has, todo...)
			watch.EveryOrder(t, p, (*play).finish)
		}
	}
	all.check(t)
}

// P13.1, T1, T2, in orders that a fixed seed gives, of many accesses of several things, some of which are moved.
func TestManyOrders(t *testing.T) {
	var all seen
	for seed := range 400 {
		r := rand.New(rand.NewSource(int64(seed)))
		has := [len(things)][fields]api.Val{}
		for i := range has {
			for k := range has[i] {
				has[i][k] = someValue(r)
			}
		}
		p := begun(t, &all, 1+r.Intn(len(things)), has, someJobs(r, 1+r.Intn(5))...)
		watch.AnyOrder(t, p, (*play).finish, r.Intn)
		if t.Failed() {
			t.Fatalf("seed %d", seed)
		}
	}
	all.check(t)
}

// someValue is one of a few, so that Swaps find what they expect.
func someValue(r *rand.Rand) api.Val {
	return []api.Val{scalar(5), scalar(6), ref(0), ref(things[0].at), ref(things[1].at), ref(things[2].at)}[r.Intn(6)]
}

// someJobs are those of n actors. Some write seldom, so that things are moved.
func someJobs(r *rand.Rand, n int) [][]job {
	var todo [][]job
	writes := 1 + r.Intn(12)
	for range n {
		var jobs []job
		for range 12 {
			j := job{op: api.Read, thing: r.Intn(len(things)), field: r.Intn(fields), exp: someValue(r), with: someValue(r)}
			if r.Intn(writes) == 0 {
				j.op = api.Write + r.Intn(2)
			}
			jobs = append(jobs, j)
		}
		todo = append(todo, jobs)
	}
	return todo
}

// P13.1: however headers and fields change between the steps of several accesses, each step does what the chapter says by what the words are then.
func TestAnyHeaders(t *testing.T) {
	ends := map[int]int{}
	for seed := range 60 {
		r := rand.New(rand.NewSource(int64(seed)))
		m := made(t, header(api.TagTagged, copied), scalar(5))
		l := make([]watch.Beside, 1+r.Intn(4))
		for k := range 1500 {
			i := r.Intn(len(l))
			if l[i].X == nil || len(l[i].Met) > 60 {
				l[i] = begin(someAccess(r), []int{4, 5, 6, 7, 8, 9}[r.Intn(6)])
			}
			did, done, wrong := l[i].Step(m)
			if wrong != "" || m.Traps() != 0 {
				t.Fatalf("seed %d, change %d: %v, behind %#x: %s, %d traps", seed, k, did, l[i].Met, wrong, m.Traps())
			}
			if done {
				ends[len(l[i].Met)]++
				watch.CheckDone(t, l[i].X, m)
				l[i] = watch.Beside{}
			}
			change(r, m)
		}
	}
	for n := 1; n <= 8; n++ {
		if ends[n] == 0 {
			t.Errorf("none was done in %d steps", n)
		}
	}
}

// someAccess is one of base, mostly of a field that it has.
func someAccess(r *rand.Rand) api.Req {
	l := values()
	return api.Req{
		Op:    r.Intn(8) % 5,
		At:    base,
		Field: r.Intn(9)%4 - r.Intn(12)/11,
		Exp:   l[r.Intn(len(l))],
		New:   l[4+r.Intn(len(l)-4)],
	}
}

// change lets base have another header, most often a tagged one, or a field another word, or nothing.
func change(r *rand.Rand, m *mem.Memory) {
	l := values()
	at := []int{base, copied, there}[r.Intn(3)]
	switch r.Intn(6) {
	case 0, 1:
		h := watch.Tagged(0, r.Intn(4), r.Intn(2), []int{1, 1, 1, 1, 2, 2, r.Intn(8)}[r.Intn(7)], []int{copied, there}[r.Intn(2)])
		if r.Intn(4) == 0 {
			h = h&^3 + uint64(r.Intn(4)) + uint64(r.Intn(3))<<40
		}
		m.Store(base, h)
	case 2:
		m.Store(at+1+r.Intn(3), watch.Field(l[r.Intn(len(l))])|uint64(r.Intn(2))*frozen)
	}
}
