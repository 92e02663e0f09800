package grey

import (
	"fmt"
	"math/rand"
	"slices"
	"testing"

	"flit/api"
	"flit/mem"
	"flit/watch"
)

// state is how far an object has come.
type state int

const (
	isWhite  state = iota // nobody has given it the mark
	isMarked              // its Shade has not brought it onto the list yet
	isListed
	isTaken // its Next has not told it yet
	isTold
)

// object is one of a play, and who has it: the actor that gave it the mark.
type object struct {
	at    int
	state state
	by    int
}

// taker is what an actor has to shade, if it takes grey ones instead.
const taker = -1

// actor does jobs, one behind the other: it shades what stands at the addresses in todo, or takes a grey one for each taker there. All takers of a play are one actor's.
type actor struct {
	todo  []int
	shade *Shade
	next  *Next
	cell  int // what it shades, or took off the list
}

// play is actors on one list, and what all of it must be at each moment: the list, as a stack, and each object.
type play struct {
	m       *mem.Memory
	mark    int
	actors  []actor
	stack   []int
	objects []object // as they stand, rising
	words   []uint64 // as all words were at the beginning
	idle    int      // steps since a job ended
	seen    seen
}

// seen tells whether plays had what they are for: how many CAS were false, of a header, of the list by a Shade, and by a Next; how often a Shade found the mark while the object was not on the list yet, and when it was told; how many were told, and how often none was.
type seen struct{ headerFails, shadeFails, nextFails, early, late, told, none int }

func (s *seen) add(o seen) {
	s.headerFails += o.headerFails
	s.shadeFails += o.shadeFails
	s.nextFails += o.nextFails
	s.early += o.early
	s.late += o.late
	s.told += o.told
	s.none += o.none
}

func (s *seen) check(t *testing.T) {
	t.Helper()
	for _, n := range []int{s.headerFails, s.shadeFails, s.nextFails, s.early, s.late, s.told, s.none} {
		if n == 0 {
			t.Errorf("some case was never met: %+v", *s)
		}
	}
}

// begun is a play of actors with these jobs, all with the mark 1, on objects that stand there.
func begun(t *testing.T, todo [][]int, objects ...int) *play {
	p := &play{m: made(t, 0), mark: 1}
	for _, c := range objects {
		p.m.Store(c, white(c, 0))
		p.objects = append(p.objects, object{at: c})
	}
	for _, l := range todo {
		p.actors = append(p.actors, actor{todo: l})
	}
	p.words = watch.Words(p.m)
	p.m.Take()
	return p
}

// clone goes its own way; what was seen stays behind. (A stack is made anew whenever it changes.)
func (p *play) clone() *play {
	c := *p
	c.m, c.actors, c.objects, c.seen = p.m.Clone(), slices.Clone(p.actors), slices.Clone(p.objects), seen{}
	for i := range c.actors {
		a := &c.actors[i]
		if a.shade != nil {
			x := *a.shade
			a.shade = &x
		}
		if a.next != nil {
			x := *a.next
			a.next = &x
		}
	}
	return &c
}

// object is the one that stands there; nil: there is none.
func (p *play) object(at int) *object {
	for i := range p.objects {
		if p.objects[i].at == at {
			return &p.objects[i]
		}
	}
	return nil
}

// begin lets the actor begin its next job, if none is under way; false: it has none any more.
func (p *play) begin(a *actor) bool {
	if a.shade == nil && a.next == nil {
		if len(a.todo) == 0 {
			return false
		}
		job := a.todo[0]
		a.todo = a.todo[1:]
		if job == taker {
			a.next, a.cell = NewNext(), 0
		} else {
			a.shade, a.cell = NewShade(job, p.mark), job
		}
	}
	return true
}

// step is one of the actor i: what is wrong with it, or nothing.
func (p *play) step(i int) string {
	a := &p.actors[i]
	if !p.begin(a) {
		return ""
	}
	count := p.m.Count()
	var done bool
	if a.shade != nil {
		done = a.shade.Step(p.m)
	} else {
		done = a.next.Step(p.m)
	}
	did := p.m.Take()
	if a.shade != nil && a.cell == 0 && done && p.m.Count() == count {
		a.shade = nil
		return p.check()
	}
	if p.m.Count() != count+1 || len(did) != 1 || p.m.Traps() != 0 {
		return fmt.Sprintf("%d accesses, %d traps", p.m.Count()-count, p.m.Traps())
	}
	if p.idle++; p.idle > 10*len(p.actors) {
		return fmt.Sprintf("no job of %d actors ended in %d steps", len(p.actors), p.idle)
	}
	wrong := ""
	if a.shade != nil {
		wrong = p.followShade(i, did[0], done)
	} else {
		wrong = p.followNext(a, did[0], done)
	}
	if wrong != "" {
		return wrong
	}
	if done {
		p.idle, a.shade, a.next = 0, nil, nil
	}
	return p.check()
}

// followShade does with the objects and the stack what an access of the actor i's Shade did. Who stores to an object must have given it the mark.
func (p *play) followShade(i int, d api.Access, done bool) string {
	o := p.object(p.actors[i].cell)
	own := o != nil && o.by == i && o.state == isMarked
	switch {
	case d.Op == 3 && !d.OK && d.At == api.AtGrey:
		p.seen.shadeFails++
	case d.Op == 3 && !d.OK:
		p.seen.headerFails++
	case d.Op == 3 && d.At == api.AtGrey:
		if !own || !done {
			return fmt.Sprintf("%+v is brought onto the list, done: %t", o, done)
		}
		o.state, p.stack = isListed, append([]int{o.at}, p.stack...)
	case d.Op == 3:
		if o == nil || d.At != o.at || o.state != isWhite {
			return fmt.Sprintf("%+v is given the mark, by a CAS at %d", o, d.At)
		}
		o.state, o.by = isMarked, i
	case d.Op == 2:
		if !own || d.At != o.at {
			return fmt.Sprintf("a Store to %d, by a Shade of %+v", d.At, o)
		}
	}
	if done && d.Op == 1 {
		return p.passedOver(o)
	}
	return ""
}

// passedOver is what a Shade may pass over: what is no object, or what somebody gave the mark.
func (p *play) passedOver(o *object) string {
	switch {
	case o == nil:
	case o.state == isWhite:
		return fmt.Sprintf("%+v is passed over", *o)
	case o.state == isMarked:
		p.seen.early++
	case o.state == isTold:
		p.seen.late++
	}
	return ""
}

// followNext does likewise with what an access of a Next did, and asks what it tells.
func (p *play) followNext(a *actor, d api.Access, done bool) string {
	at, count := a.next.Result()
	if !done && (at != 0 || count != 0) {
		return fmt.Sprintf("Result is %d, %d ahead of the end", at, count)
	}
	switch {
	case d.Op == 3 && !d.OK:
		p.seen.nextFails++
	case d.Op == 3:
		if d.At != api.AtGrey || a.cell != 0 || len(p.stack) == 0 {
			return fmt.Sprintf("a CAS at %d; it has %d, the list being %d", d.At, a.cell, p.stack)
		}
		a.cell, p.stack = p.stack[0], p.stack[1:]
		p.object(a.cell).state = isTaken
	case d.Op == 2 && (d.At != a.cell || !done):
		return fmt.Sprintf("a Store to %d; it has %d", d.At, a.cell)
	}
	if done {
		return p.tell(a, at, count)
	}
	return ""
}

// tell is what a Next that is done must tell: what it took off the list; none only of a list that is empty now.
func (p *play) tell(a *actor, at, count int) string {
	if a.cell == 0 {
		p.seen.none++
		if at != 0 || count != 0 || len(p.stack) != 0 {
			return fmt.Sprintf("%d, %d are told, the list being %d", at, count, p.stack)
		}
		return ""
	}
	o := p.object(a.cell)
	if at != a.cell || count != countOf(at) || o.state != isTaken {
		return fmt.Sprintf("%d, %d are told, want %+v", at, count, *o)
	}
	p.seen.told++
	o.state = isTold
	return ""
}

// check holds the list against the stack, each header against how far its object has come, and all other words against what they were.
func (p *play) check() string {
	got := watch.Words(p.m)
	if on := watch.Listed(got, api.AtGrey); !slices.Equal(on, p.stack) {
		return fmt.Sprintf("the list has %d, want %d", on, p.stack)
	}
	for _, o := range p.objects {
		w := got[o.at]
		switch o.state {
		case isWhite:
			if w != white(o.at, 1-p.mark) {
				return fmt.Sprintf("%+v has the header %#x", o, w)
			}
		case isTold:
			if w != white(o.at, p.mark) {
				return fmt.Sprintf("%+v has the header %#x", o, w)
			}
		default:
			if w&^(0xfff<<12) != grey(o.at, p.mark, 0) {
				return fmt.Sprintf("%+v has the header %#x", o, w)
			}
		}
	}
	for at, w := range p.words {
		if at != api.AtGrey && p.object(at) == nil && got[at] != w {
			return fmt.Sprintf("the word %d is %#x, was %#x", at, got[at], w)
		}
	}
	return ""
}

// finish takes what is grey, when all are done: then each that was shaded was told.
func (p *play) finish(shaded []int) string {
	last := actor{}
	for range len(p.objects) + 1 {
		last.todo = append(last.todo, taker)
	}
	p.actors = append(p.actors, last)
	defer func() { p.actors = p.actors[:len(p.actors)-1] }()
	for i := len(p.actors) - 1; !p.actors[i].idle(); {
		if wrong := p.step(i); wrong != "" {
			return wrong
		}
	}
	for _, o := range p.objects {
		want := isWhite
		if slices.Contains(shaded, o.at) {
			want = isTold
		}
		if o.state != want {
			return fmt.Sprintf("all are done, none is grey, and %+v was shaded: %t", o, want == isTold)
		}
	}
	return ""
}

// idle tells whether the actor has nothing to do any more.
func (a *actor) idle() bool { return a.shade == nil && a.next == nil && len(a.todo) == 0 }

// key is another one of each two plays that go on in other ways.
func (p *play) key() string {
	k := fmt.Sprint(watch.Word(p.m, api.AtGrey), p.stack, p.idle)
	for _, o := range p.objects {
		k += fmt.Sprint(" ", o, watch.Word(p.m, o.at))
	}
	for _, a := range p.actors {
		k += fmt.Sprint("; ", len(a.todo), a.cell)
		if a.shade != nil {
			k += fmt.Sprint(" shade ", *a.shade)
		}
		if a.next != nil {
			k += fmt.Sprint(" next ", *a.next)
		}
	}
	return k
}

// everyOrder does each order of steps that there is, from here on, and then finishes. What orders have come to is not gone on from once more.
func (p *play) everyOrder(t *testing.T, shaded, so []int, come map[string]bool) {
	key := p.key()
	if come[key] {
		return
	}
	come[key] = true
	end := true
	for i := range p.actors {
		if p.actors[i].idle() {
			continue
		}
		end = false
		c := p.clone()
		order := append(slices.Clone(so), i)
		if wrong := c.step(i); wrong != "" {
			t.Fatalf("steps %d: %s", order, wrong)
		}
		c.everyOrder(t, shaded, order, come)
		p.seen.add(c.seen)
	}
	if end {
		if wrong := p.finish(shaded); wrong != "" {
			t.Fatalf("steps %d: %s", so, wrong)
		}
	}
}

// P11.3, in every order of the steps of a few machines: at each moment the list and each header are what they must be, who stores to an object has it, each object is told once at the most, and, when all are done and none is grey, each that was shaded was told. (The cells 8 and 12 are no objects.)
func TestEveryOrder(t *testing.T) {
	var all seen
	for _, todo := range [][][]int{
		{{96}, {96}},
		{{96}, {100}},
		{{96}, {taker, taker}},
		{{96, 96}, {taker, 96, taker}},
		{{96}, {96}, {taker, taker}},
		{{96}, {100}, {taker, taker}},
		{{96}, {100}, {taker, taker, taker}},
		{{96, 100}, {100, 96}, {taker, taker}},
		{{96, 100}, {100, 96}, {taker, taker, taker}},
		{{96}, {100}, {64}},
		{{96, 64}, {100}, {taker, taker}},
		{{96, 64}, {64, 100}, {taker, taker}},
		{{96}, {96}, {96}, {taker}},
		{{96}, {100}, {96}, {taker}},
		{{96, 100, 64}, {taker, taker, taker, taker}},
		{{0, 96}, {8, 96, 0}, {taker, 12, taker}},
		{{8}, {12, 8}, {taker}},
	} {
		p := begun(t, todo, 64, 96, 100)
		var shaded []int
		for _, l := range todo {
			shaded = append(shaded, l...)
		}
		p.everyOrder(t, shaded, nil, map[string]bool{})
		all.add(p.seen)
	}
	all.check(t)
}

// P11.3, in orders that a fixed seed gives, of many machines and objects, and of one cycle behind the other: with the other mark all objects are without the mark again.
func TestManyOrders(t *testing.T) {
	var all seen
	for seed := range 60 {
		r := rand.New(rand.NewSource(int64(seed)))
		var objects []int
		for c := 32; c < 160; c += 4 {
			if r.Intn(3) != 0 {
				objects = append(objects, c)
			}
		}
		p := begun(t, nil, objects...)
		for cycle := range 4 {
			var shaded []int
			p.actors, shaded = someJobs(r, 2+r.Intn(7))
			if wrong := p.anyOrder(r); wrong != "" {
				t.Fatalf("seed %d, cycle %d: %s", seed, cycle, wrong)
			}
			if wrong := p.finish(shaded); wrong != "" {
				t.Fatalf("seed %d, cycle %d, at its end: %s", seed, cycle, wrong)
			}
			p.turn()
		}
		all.add(p.seen)
	}
	all.check(t)
}

// someJobs are those of n actors, of which the first one takes grey ones too, and what they shade: most of it several times, a few addresses most often.
func someJobs(r *rand.Rand, n int) (actors []actor, shaded []int) {
	for i := range n {
		var a actor
		for range 40 {
			c := 4 * r.Intn(40)
			switch k := r.Intn(4); {
			case k == 0:
				c = 64 + 4*r.Intn(3)
			case k < 3 && i == 0:
				c = taker
			}
			a.todo = append(a.todo, c)
			shaded = append(shaded, c)
		}
		actors = append(actors, a)
	}
	return actors, shaded
}

// anyOrder goes on till all are done.
func (p *play) anyOrder(r *rand.Rand) string {
	for k := 0; slices.ContainsFunc(p.actors, func(a actor) bool { return !a.idle() }); k++ {
		i := r.Intn(len(p.actors))
		if r.Intn(4) == 0 { // one that goes on alone for a while
			i = k / 20 % len(p.actors)
		}
		if wrong := p.step(i); wrong != "" {
			return fmt.Sprintf("step %d, of the actor %d: %s", k, i, wrong)
		}
	}
	return ""
}

// turn begins a cycle with the other mark: objects that were not shaded have it already, so that they are given the one that was.
func (p *play) turn() {
	for i, o := range p.objects {
		p.objects[i].state = isWhite
		p.m.Store(o.at, white(o.at, p.mark))
	}
	p.m.Take()
	p.mark = 1 - p.mark
}
