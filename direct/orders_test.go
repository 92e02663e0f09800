package direct

import (
	"fmt"
	"math/rand"
	"slices"
	"testing"

	"flit/api"
	"flit/mem"
	"flit/watch"
)

// job is an access of a field of base, by a Direct, or by a Plain, in a mode that h is of.
type job struct {
	r     api.Req
	h     How
	plain bool
}

func (j job) begin() watch.Accessor {
	if !j.plain {
		return NewDirect(base, j.r, j.h)
	}
	e := api.Env{Mark: j.h.Mark}
	if j.h.Shade {
		e.Mode = api.ModeRoots
	}
	return NewPlain(j.r, e)
}

// field is where the word of its field stands.
func (j job) field() int { return base + 1 + j.r.Field }

// actor does jobs, one behind the other.
type actor struct {
	todo   []job
	job    job
	x      watch.Accessor // nil: none is under way
	hits   int
	saw    api.Val // what the field had ahead of the last hit
	loaded api.Val // what it had when it was loaded last
	again  bool    // a CAS has found another word
	met    string  // what its steps have met since its job began, or went on at the step 1
}

// idle tells whether the actor has nothing to do any more.
func (a *actor) idle() bool { return a.x == nil && len(a.todo) == 0 }

// play is actors on the fields of one object, and what these must have at each moment.
type play struct {
	m      *mem.Memory
	actors []actor
	fields [3]api.Val
	words  []uint64 // as all words were at the beginning
	yes    int      // how many Swaps are done
	since  int      // steps since a job ended
	seen   *seen    // one for all plays
}

// seen tells whether plays had what they are for: how many Swaps were done, found something else at once, and behind a CAS that had found another word; how many such CAS there were; how many Reads and Writes; how many Writes with Shade laid New down where the field had something else by then than they had seen.
type seen struct{ yes, no, late, fails, reads, writes, blind int }

func (s *seen) check(t *testing.T) {
	t.Helper()
	for _, n := range []int{s.yes, s.no, s.late, s.fails, s.reads, s.writes, s.blind} {
		if n == 0 {
			t.Errorf("some case was never met: %+v", *s)
		}
	}
}

// begun is a play of actors with these jobs, on fields that have that.
func begun(t *testing.T, s *seen, fields [3]api.Val, todo ...[]job) *play {
	p := &play{m: made(t, fields[0]), fields: fields, seen: s}
	for k, v := range fields {
		p.m.Store(base+1+k, watch.Field(v))
	}
	for _, l := range todo {
		p.actors = append(p.actors, actor{todo: l})
	}
	p.words = watch.Words(p.m)
	p.m.Take()
	return p
}

// Clone goes its own way, but for what is seen.
func (p *play) Clone() *play {
	c := *p
	c.m, c.actors = p.m.Clone(), slices.Clone(p.actors)
	for i := range c.actors {
		if a := &c.actors[i]; a.x != nil {
			a.x = copyOf(a.x)
		}
	}
	return &c
}

// Actors is how many there are, Idle whether one has nothing to do any more.
func (p *play) Actors() int     { return len(p.actors) }
func (p *play) Idle(i int) bool { return p.actors[i].idle() }

// Step is one of the actor i: what is wrong with it, or nothing.
func (p *play) Step(i int) string {
	a := &p.actors[i]
	if a.x == nil {
		*a = actor{todo: a.todo[1:], job: a.todo[0], x: a.todo[0].begin()}
	}
	count := p.m.Count()
	done := a.x.Step(p.m)
	did := p.m.Take()
	if p.m.Count() != count+1 || len(did) != 1 || p.m.Traps() != 0 {
		return fmt.Sprintf("%d accesses, %d traps", p.m.Count()-count, p.m.Traps())
	}
	a.met += fmt.Sprint(did[0], watch.Word(p.m, did[0].At))
	n := len(p.actors)
	if p.since++; p.since > 40*n*n {
		return fmt.Sprintf("no job of %d actors ended in %d steps", n, p.since)
	}
	if wrong := p.follow(a, did[0], done); wrong != "" {
		return fmt.Sprintf("%+v: %v, done: %t: %s", a.job, did[0], done, wrong)
	}
	if done {
		if wrong := p.told(a); wrong != "" {
			return fmt.Sprintf("%+v tells %v: %s", a.job, a.x.Result(), wrong)
		}
		p.since = 0
		*a = actor{todo: a.todo}
	}
	return p.check()
}

// follow does with the fields what an access of the actor did, and asks whether it is a hit.
func (p *play) follow(a *actor, d api.Access, done bool) string {
	if !done && a.x.Result() != (api.Out{}) {
		return fmt.Sprintf("Result is %v ahead of the end", a.x.Result())
	}
	f, op := &p.fields[a.job.r.Field], a.job.r.Op
	load := d == watch.Load(a.job.field())
	lays := d == watch.Store(a.job.field()) || d == watch.CAS(a.job.field(), true)
	hit := load && op != api.Write || lays
	if a.x.Hit() != hit {
		return fmt.Sprintf("Hit is %t", !hit)
	}
	if hit {
		a.hits++
		a.saw = *f
	}
	if load {
		a.loaded = *f
	}
	if d.At == a.job.field() && d.Op != 1 {
		if wrong := p.bothMarked(a); wrong != "" {
			return wrong
		}
	}
	switch {
	case lays:
		if op == api.Read || !done || op == api.Swap && !hasExpected(*f, a.job.r.Exp, a.job.h) {
			return fmt.Sprintf("the field has %v", *f)
		}
		if a.job.h.Shade && a.loaded != *f {
			p.seen.blind++
		}
		*f = a.job.r.New
	case d == watch.CAS(a.job.field(), false):
		p.seen.fails++
		a.again, a.met = true, ""
	}
	return ""
}

// bothMarked is what must be ahead of the access that lays New down: with Shade the objects have the mark to which the field referred, when it was loaded, and to which New refers.
func (p *play) bothMarked(a *actor) string {
	if !a.job.h.Shade {
		return ""
	}
	for _, v := range []api.Val{a.loaded, a.job.r.New} {
		if v.Kind != api.Ref || v.N == 0 {
			continue
		}
		if w := watch.Word(p.m, v.N); w%4 == api.CellObject && int(w>>7%2) != a.job.h.Mark {
			return fmt.Sprintf("%v has not got the mark", v)
		}
	}
	return ""
}

// told is whether a job that is done had the result that it would have if it were done at once, at its last hit.
func (p *play) told(a *actor) string {
	out, r := api.Out{}, a.job.r
	switch r.Op {
	case api.Read:
		p.seen.reads++
		out.V = a.saw
		if a.job.h.Fix && out.V.Kind == api.Ref {
			out.V.N = homeOf(out.V.N)
		}
	case api.Write:
		p.seen.writes++
	case api.Swap:
		out.Yes = hasExpected(a.saw, r.Exp, a.job.h)
		switch {
		case out.Yes:
			p.yes++
			p.seen.yes++
		case a.again:
			p.seen.late++
		default:
			p.seen.no++
		}
	}
	if a.hits == 0 || a.x.Result() != out {
		return fmt.Sprintf("want %v, at one of %d hits", out, a.hits)
	}
	return ""
}

// check holds the fields against what they must have, the grey ones against their headers, and all other words against what they were.
func (p *play) check() string {
	got := watch.Words(p.m)
	for k, v := range p.fields {
		if w := got[base+1+k]; w != watch.Field(v) {
			return fmt.Sprintf("the field %d has the word %#x, want %v", k, w, v)
		}
	}
	on := watch.Listed(got, api.AtGrey)
	for k, at := range on {
		if slices.Contains(on[:k], at) || got[at]>>8%2 != 1 {
			return fmt.Sprintf("of the grey ones %d the object %d is there twice, or is not grey", on, at)
		}
	}
	for at, w := range p.words {
		switch {
		case at == api.AtGrey || at > base && at <= base+3:
		case w%4 == api.CellObject && at%4 == 0 && at >= base:
			w, got := w&^(1<<7), got[at]&^(1<<7) // the mark, if it is shaded
			if got != w && got%(1<<12) != w%(1<<12)|1<<8 {
				return fmt.Sprintf("the header at %d is %#x, was %#x", at, got, w)
			}
		case got[at] != w:
			return fmt.Sprintf("the word %d is %#x, was %#x", at, got[at], w)
		}
	}
	return ""
}

// finish is whether, when all are done, each object that has another mark than at the beginning is on the list.
func (p *play) finish() string {
	got := watch.Words(p.m)
	want := []int{listed}
	for at := base; at < size; at += 4 {
		if at != listed && (got[at]^p.words[at])>>7%2 != 0 {
			want = append(want, at)
		}
	}
	on := watch.Listed(got, api.AtGrey)
	slices.Sort(on)
	slices.Sort(want)
	if !slices.Equal(on, want) {
		return fmt.Sprintf("%d are grey, want %d", on, want)
	}
	return ""
}

// Key is another one of each two plays that go on in other ways: what a machine does next hangs on what its steps have met.
func (p *play) Key() string {
	k := fmt.Sprint(p.yes, p.since)
	for at, w := range watch.Words(p.m) {
		if w != p.words[at] {
			k += fmt.Sprint(" ", at, w)
		}
	}
	for _, a := range p.actors {
		k += fmt.Sprint("; ", len(a.todo), a.x != nil, a.met, a.again, a.hits > 0, a.saw, a.loaded)
	}
	return k
}

// Jobs of the first field.
func readJob(h How, plain bool) job {
	return job{api.Req{Op: api.Read, At: base}, h, plain}
}

func writeJob(v api.Val, h How, plain bool) job {
	return job{api.Req{Op: api.Write, At: base, New: v}, h, plain}
}

func swapJob(exp, v api.Val, h How, plain bool) job {
	return job{api.Req{Op: api.Swap, At: base, Exp: exp, New: v}, h, plain}
}

// P12.1, P12.2: in every order of the steps of two Swaps, and of three, of one field that expect what it has, and would lay down something else, just one is done.
func TestOneSwapOfSeveral(t *testing.T) {
	var all seen
	shade, canon := How{Shade: true, Mark: 1}, How{Canon: true}
	for _, x := range []struct {
		has       api.Val
		exp, with [3]api.Val
		h         How
	}{
		{scalar(5), [3]api.Val{scalar(5), scalar(5), scalar(5)}, [3]api.Val{scalar(6), scalar(7), ref(0)}, How{}},
		{ref(0), [3]api.Val{ref(0), ref(0), ref(0)}, [3]api.Val{ref(white), ref(now), scalar(0)}, How{}},
		{ref(white), [3]api.Val{ref(white), ref(white), ref(white)}, [3]api.Val{ref(0), scalar(7), ref(black)}, shade},
		{ref(white), [3]api.Val{ref(white), ref(white), ref(white)}, [3]api.Val{ref(now), ref(now), scalar(3)}, shade},
		{scalar(5), [3]api.Val{scalar(5), scalar(5), scalar(5)}, [3]api.Val{ref(white), ref(tagged), ref(0)}, shade},
		{ref(old), [3]api.Val{ref(now), ref(old), ref(elder)}, [3]api.Val{scalar(6), ref(0), ref(white)}, canon},
	} {
		for _, by := range []struct {
			n     int
			plain bool
		}{{2, false}, {3, false}, {2, true}} {
			if by.plain && x.h.Canon { // no Plain has it
				continue
			}
			var todo [][]job
			for i := range by.n {
				todo = append(todo, []job{swapJob(x.exp[i], x.with[i], x.h, by.plain)})
			}
			p := begun(t, &all, [3]api.Val{x.has, scalar(1), scalar(2)}, todo...)
			watch.EveryOrder(t, p, func(p *play) string {
				if wrong := p.finish(); wrong != "" {
					return wrong
				}
				if p.yes != 1 || !slices.Contains(x.with[:by.n], p.fields[0]) {
					return fmt.Sprintf("%d Swaps are done, the field has %v", p.yes, p.fields[0])
				}
				return ""
			})
		}
	}
	if all.yes == 0 || all.no == 0 || all.late == 0 || all.fails == 0 {
		t.Errorf("some case was never met: %+v", all)
	}
}

// P12.1, P12.2, P12.4, in every order of the steps of a few accesses of one field: each has the result that it would have if it were done at once at its last hit, the field has at each moment what was laid down last, and with Shade both objects have the mark by then.
func TestEveryOrder(t *testing.T) {
	shade := How{Shade: true, Mark: 1}
	canon := How{Canon: true, Fix: true}
	var all seen
	for _, todo := range [][][]job{
		{{readJob(How{}, false)}, {writeJob(scalar(6), How{}, false)}, {swapJob(scalar(6), scalar(7), How{}, false)}},
		{{readJob(How{}, true), readJob(How{}, true)}, {writeJob(ref(now), How{}, true), writeJob(ref(0), How{}, true)}},
		{{readJob(canon, false)}, {writeJob(ref(elder), canon, false)}, {swapJob(ref(old), ref(now), canon, false)}},
		{{readJob(canon, false)}, {swapJob(ref(elder), ref(old), canon, false)}, {swapJob(ref(old), ref(now), canon, false)}, {writeJob(ref(old), canon, false)}},
		{{writeJob(ref(white), shade, false)}, {writeJob(ref(now), shade, false)}},
		{{writeJob(ref(white), shade, true)}, {writeJob(ref(white), shade, true)}, {readJob(shade, true)}},
		{{writeJob(ref(tagged), shade, true)}, {swapJob(ref(white), ref(now), shade, true)}},
		{{writeJob(ref(white), How{}, true), writeJob(scalar(3), How{}, true)}, {swapJob(ref(white), ref(now), shade, true)}},
		{{swapJob(scalar(5), ref(white), shade, false)}, {swapJob(ref(white), ref(0), shade, false)}, {readJob(shade, false)}},
		{{swapJob(scalar(5), ref(white), How{}, true), swapJob(ref(white), scalar(5), How{}, true)}, {swapJob(scalar(5), ref(now), shade, true)}},
	} {
		for _, v := range []api.Val{scalar(5), ref(0), ref(white), ref(now)} {
			p := begun(t, &all, [3]api.Val{v, scalar(1), ref(black)}, todo...)
			watch.EveryOrder(t, p, (*play).finish)
		}
	}
	all.check(t)
}

// P12.1, P12.2, P12.4, in orders that a fixed seed gives, of many accesses of several fields: while all shade, some or all of them, and while objects were moved.
func TestManyOrders(t *testing.T) {
	var all seen
	for seed := range 90 {
		r := rand.New(rand.NewSource(int64(seed)))
		p := begun(t, &all, [3]api.Val{scalar(5), ref(white), ref(0)}, someJobs(r, 2+r.Intn(6), seed%3)...)
		watch.AnyOrder(t, p, (*play).finish, r.Intn)
		if t.Failed() {
			t.Fatalf("seed %d", seed)
		}
	}
	all.check(t)
}

// The kinds of plays that someJobs makes jobs for.
const (
	allShade = iota
	someShade
	wereMoved
)

// someJobs are those of n actors: of a few values, so that Swaps find what they expect. While one shades nothing was moved: a Shade takes the link away.
func someJobs(r *rand.Rand, n, kind int) [][]job {
	l := []api.Val{scalar(0), scalar(5), ref(0), ref(white), ref(black), ref(now), ref(tagged)}
	if kind == wereMoved {
		l = []api.Val{scalar(5), ref(0), ref(now), ref(old), ref(elder), ref(white)}
	}
	var todo [][]job
	for range n {
		var jobs []job
		for range 20 {
			j := job{r: api.Req{
				Op:    1 + r.Intn(3),
				At:    base,
				Field: r.Intn(3) * r.Intn(2),
				Exp:   l[r.Intn(len(l))],
				New:   l[r.Intn(len(l))],
			}}
			switch kind {
			case wereMoved:
				j.h = How{Canon: true, Fix: r.Intn(2) == 0}
			default:
				j.h = How{Shade: kind == allShade || r.Intn(2) == 0, Mark: 1}
				j.plain = r.Intn(2) == 0
			}
			jobs = append(jobs, j)
		}
		todo = append(todo, jobs)
	}
	return todo
}
