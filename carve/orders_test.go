package carve

import (
	"fmt"
	"math/rand"
	"slices"
	"testing"

	"flit/api"
	"flit/mem"
	"flit/watch"
)

// job is what an actor does: it takes a block for a list, or gives back the one that it holds longest.
type job struct {
	gives      bool
	class, set int
}

// none is an actor's block, while there is none.
const none = -1

// actor does jobs, one behind the other. A Give of nothing is passed over.
type actor struct {
	todo []job
	held []int
	take *Take
	give *Give
	now  job
	// the block that take has taken already, or that give has not given yet
	block int
	// whether a CAS of another was done since this one read the head of the blocks, or of its list; and which block was first then
	changed, listChanged bool
	saw                  int
}

// play is actors on the blocks of one plan, and what all of it must be at each moment: the free blocks and the lists as stacks, how often their heads were changed.
type play struct {
	p        api.Plan
	m        *mem.Memory
	actors   []actor
	free     []int
	version  int
	lists    [6][]int
	versions [6]int
	seen     seen
}

// seen tells whether plays had what they are for: how many CAS of the blocks were false, of Takes, of Gives, and of either with the same block first again; how many CAS of lists; how many Takes found none.
type seen struct{ takeFails, giveFails, backFails, listFails, none int }

func (s *seen) add(o seen) {
	s.takeFails += o.takeFails
	s.giveFails += o.giveFails
	s.backFails += o.backFails
	s.listFails += o.listFails
	s.none += o.none
}

func (s *seen) check(t *testing.T) {
	t.Helper()
	if s.takeFails == 0 || s.giveFails == 0 || s.backFails == 0 || s.listFails == 0 || s.none == 0 {
		t.Errorf("some case was never met: %+v", *s)
	}
}

// begun is a play of actors with these jobs, the actor i holding held[i].
func begun(t *testing.T, blocks int, free []int, todo [][]job, held [][]int) *play {
	p := &play{free: free}
	p.p, p.m = watch.Made(t, 1, blocks, 0, free...)
	for i, l := range todo {
		a := actor{todo: l, block: none}
		if i < len(held) {
			a.held = held[i]
		}
		p.actors = append(p.actors, a)
	}
	return p
}

// clone goes its own way; what was seen stays behind. (Stacks are made anew whenever they change.)
func (p *play) clone() *play {
	c := *p
	c.m, c.actors, c.seen = p.m.Clone(), slices.Clone(p.actors), seen{}
	for i := range c.actors {
		a := &c.actors[i]
		a.held = slices.Clone(a.held)
		if a.take != nil {
			x := *a.take
			a.take = &x
		}
		if a.give != nil {
			x := *a.give
			a.give = &x
		}
	}
	return &c
}

// begin lets the actor begin its next job, if none is under way; false: it has none any more.
func (p *play) begin(a *actor) bool {
	for a.take == nil && a.give == nil {
		if len(a.todo) == 0 {
			return false
		}
		a.now, a.todo = a.todo[0], a.todo[1:]
		if !a.now.gives {
			a.take = NewTake(p.p, a.now.class, a.now.set)
		} else if len(a.held) > 0 {
			a.block, a.held = a.held[0], a.held[1:]
			p.unlist(a.block)
			a.give = NewGive(p.p, a.block)
		}
	}
	return true
}

// unlist takes the cells of a block off the lists, as nobody may give one back whose cells are there.
func (p *play) unlist(block int) {
	for k, l := range p.lists {
		rest := slices.DeleteFunc(slices.Clone(l), func(c int) bool { return (c-p.p.Heap)/32 == block })
		if len(rest) == len(l) {
			continue
		}
		first := 0
		for _, c := range slices.Backward(rest) {
			p.m.Store(c, watch.Free(k%3, first))
			first = c
		}
		p.lists[k] = rest
		p.versions[k]++
		p.m.Store(3+k, watch.Top(first, p.versions[k]))
		p.tellList(k, none)
	}
	p.m.Take()
}

// list is which of the lists the actor's job is of.
func (a *actor) list() int { return 3*a.now.set + a.now.class }

// step is one of the actor i: what is wrong with it, or nothing.
func (p *play) step(i int) string {
	a := &p.actors[i]
	if !p.begin(a) {
		return ""
	}
	count := p.m.Count()
	var done bool
	if a.take != nil {
		done = a.take.Step(p.m)
	} else {
		done = a.give.Step(p.m)
	}
	did := p.m.Take()
	if p.m.Count() != count+1 || len(did) != 1 || p.m.Traps() != 0 {
		return fmt.Sprintf("%d accesses, %d traps", p.m.Count()-count, p.m.Traps())
	}
	if wrong := p.follow(i, did[0]); wrong != "" {
		return wrong
	}
	if wrong := p.end(a, done); wrong != "" {
		return wrong
	}
	return p.check()
}

// follow does with the stacks what an access did.
func (p *play) follow(i int, d api.Access) string {
	a := &p.actors[i]
	blocks, lists := d.At == api.AtBlocks, d.At == 3+a.list()
	switch {
	case d.Op == 1 && blocks:
		a.changed, a.saw = false, firstOf(p.free)
	case d.Op == 1 && lists:
		a.listChanged = false
	case d.Op == 3 && blocks:
		if d.OK == a.changed {
			return fmt.Sprintf("its CAS of the blocks is %t, while one of another was done: %t", d.OK, a.changed)
		}
		return p.followBlocks(i, d.OK)
	case d.Op == 3 && lists:
		if d.OK == a.listChanged {
			return fmt.Sprintf("its CAS of the list is %t, while one of another was done: %t", d.OK, a.listChanged)
		}
		p.followList(i, d.OK)
	case d.Op == 3:
		return fmt.Sprintf("a CAS of the word %d", d.At)
	}
	return ""
}

// firstOf is the first one of a stack.
func firstOf(l []int) int {
	if len(l) == 0 {
		return none
	}
	return l[0]
}

func (p *play) followBlocks(i int, ok bool) string {
	a := &p.actors[i]
	if !ok {
		if a.take != nil {
			p.seen.takeFails++
		} else {
			p.seen.giveFails++
		}
		if a.saw == firstOf(p.free) {
			p.seen.backFails++
		}
		return ""
	}
	if a.take == nil {
		p.free = append([]int{a.block}, p.free...)
		a.block = none
	} else if len(p.free) == 0 || a.block != none {
		return fmt.Sprintf("a block is taken, while %d are free, and the block %d was taken", p.free, a.block)
	} else {
		a.block, p.free = p.free[0], p.free[1:]
	}
	p.version++
	for k := range p.actors {
		p.actors[k].changed = p.actors[k].changed || k != i
	}
	return ""
}

func (p *play) followList(i int, ok bool) {
	a := &p.actors[i]
	if !ok {
		p.seen.listFails++
		return
	}
	k := a.list()
	p.lists[k] = append(watch.CellsOf(p.p, a.block, a.now.class)[1:], p.lists[k]...)
	p.versions[k]++
	p.tellList(k, i)
}

// tellList tells all actors but the actor i that a list is another one.
func (p *play) tellList(k, i int) {
	for j := range p.actors {
		b := &p.actors[j]
		b.listChanged = b.listChanged || j != i && b.list() == k
	}
}

// end is what a machine must tell, while it is under way, and when it is done.
func (p *play) end(a *actor, done bool) string {
	if !done {
		if a.take != nil && a.take.Cell() != 0 {
			return fmt.Sprintf("Cell is %d ahead of the end", a.take.Cell())
		}
		return ""
	}
	x := a.take
	a.take, a.give = nil, nil
	if x == nil {
		if a.block != none {
			return fmt.Sprintf("the block %d is not given back", a.block)
		}
		return ""
	}
	if a.block == none {
		p.seen.none++
		if x.Cell() != 0 || len(p.free) > 0 {
			return fmt.Sprintf("Cell is %d, and the blocks %d are free, but none was taken", x.Cell(), p.free)
		}
		return ""
	}
	b := a.block
	a.held, a.block = append(a.held, b), none
	if x.Cell() != p.p.Heap+32*b {
		return fmt.Sprintf("Cell is %d, of the block %d", x.Cell(), b)
	}
	if w := watch.Word(p.m, p.p.Table+b); w != watch.Block(api.BlockUsed, a.now.class, a.now.set, 0) {
		return fmt.Sprintf("the table says %#x of the block %d", w, b)
	}
	return ""
}

// check holds the memory against the stacks, and asks whether each block is at one place.
func (p *play) check() string {
	w := watch.Words(p.m)
	if got := watch.FreeBlocks(p.p, w); !slices.Equal(got, p.free) {
		return fmt.Sprintf("the blocks %d are free, want %d", got, p.free)
	}
	if w[api.AtBlocks] != watch.Top(firstOf(p.free)+1, p.version) {
		return fmt.Sprintf("the head of the blocks is %#x, behind %d changes", w[api.AtBlocks], p.version)
	}
	for k, want := range p.lists {
		if got := watch.Listed(w, 3+k); !slices.Equal(got, want) || int(w[3+k]>>12) != p.versions[k] {
			return fmt.Sprintf("the list %d has %d, want %d, and the head %#x, behind %d changes", k, got, want, w[3+k], p.versions[k])
		}
	}
	all := slices.Clone(p.free)
	for _, a := range p.actors {
		all = append(all, a.held...)
		if a.block != none {
			all = append(all, a.block)
		}
	}
	slices.Sort(all)
	for b, got := range all {
		if got != b || len(all) != p.p.Blocks {
			return fmt.Sprintf("the blocks are %d", all)
		}
	}
	return ""
}

// idle tells whether the actor has nothing to do any more.
func (a *actor) idle() bool {
	under := a.take != nil || a.give != nil
	takes := slices.ContainsFunc(a.todo, func(j job) bool { return !j.gives })
	return !under && (len(a.todo) == 0 || len(a.held) == 0 && !takes)
}

// key is another one of each two plays that go on in other ways.
func (p *play) key() string {
	k := fmt.Sprint(watch.Words(p.m))
	for _, a := range p.actors {
		k += fmt.Sprint(len(a.todo), a.held, a.now, a.block, a.changed, a.listChanged, a.saw)
		if a.take != nil {
			k += fmt.Sprint("take", *a.take)
		}
		if a.give != nil {
			k += fmt.Sprint("give", *a.give)
		}
	}
	return k
}

// everyOrder does each order of steps that there is, from here on. What orders have come to is not gone on from once more.
func (p *play) everyOrder(t *testing.T, so []int, come map[string]bool) {
	key := p.key()
	if come[key] {
		return
	}
	come[key] = true
	for i := range p.actors {
		if p.actors[i].idle() {
			continue
		}
		c := p.clone()
		order := append(slices.Clone(so), i)
		if wrong := c.step(i); wrong != "" {
			t.Fatalf("steps %d: %s", order, wrong)
		}
		c.everyOrder(t, order, come)
		p.seen.add(c.seen)
	}
}

// P9.3, in every order of the steps of a few machines: at each moment the free blocks and the lists are what they must be, each block is at one place, and a CAS is false just if one of another was done.
func TestEveryOrder(t *testing.T) {
	wide, other, mid, back := job{class: 2}, job{class: 2, set: 1}, job{class: 1}, job{gives: true}
	var all seen
	for _, x := range []struct {
		blocks int
		free   []int
		todo   [][]job
		held   [][]int
	}{
		{2, []int{0, 1}, [][]job{{wide}, {wide}}, nil},
		{2, []int{1, 0}, [][]job{{wide}, {other}}, nil},
		{2, []int{1, 0}, [][]job{{mid}, {mid}}, nil},
		{1, []int{0}, [][]job{{wide}, {wide, back}}, nil},
		{1, []int{0}, [][]job{{wide, back}, {other, back, mid}}, nil},
		{3, []int{0, 1, 2}, [][]job{{wide}, {other, other, back}}, nil},
		{3, []int{0, 1, 2}, [][]job{{wide, back}, {wide, wide, back, back}}, nil},
		{3, []int{0, 1}, [][]job{{wide}, {back, wide}}, [][]int{nil, {2}}},
		{3, []int{2}, [][]job{{wide}, {back, back}}, [][]int{nil, {1, 0}}},
		{3, []int{2}, [][]job{{wide}, {back}, {back}}, [][]int{nil, {1}, {0}}},
		{3, nil, [][]job{{back}, {back}, {back}}, [][]int{{2}, {0}, {1}}},
		{2, nil, [][]job{{back, wide}, {back}}, [][]int{{1}, {0}}},
		{2, []int{0, 1}, [][]job{{wide}, {wide}, {other}}, nil},
		{2, []int{0}, [][]job{{wide}, {back}, {wide, back}}, [][]int{nil, {1}}},
	} {
		p := begun(t, x.blocks, x.free, x.todo, x.held)
		p.everyOrder(t, nil, map[string]bool{})
		if p.seen.takeFails+p.seen.giveFails == 0 {
			t.Errorf("%+v: no CAS of the blocks was false", x)
		}
		all.add(p.seen)
	}
	all.check(t)
}

// P9.3: the steps of a Take, each behind one of which another takes two blocks and gives the first one back, so that the head names the same block, but what stands behind it is taken.
func TestBlockIsBackAtEachStep(t *testing.T) {
	for class := range 3 {
		for steps := range 4 {
			p := begun(t, 3, []int{0, 1, 2}, [][]job{
				{{class: class}},
				{{class: 1, set: 1}, {class: 2, set: 1}, {gives: true}},
			}, nil)
			for range steps {
				mustStep(t, p, 0)
			}
			for !p.actors[1].idle() {
				mustStep(t, p, 1)
			}
			for !p.actors[0].idle() {
				mustStep(t, p, 0)
			}
			if p.seen.backFails == 0 && (steps == 1 || steps == 2) {
				t.Errorf("class %d, behind %d steps: no CAS was false", class, steps)
			}
		}
	}
}

func mustStep(t *testing.T, p *play, i int) {
	t.Helper()
	if wrong := p.step(i); wrong != "" {
		t.Fatal(wrong)
	}
}

// P9.3, in orders that a fixed seed gives, of many machines and many jobs, of all classes and sets.
func TestManyOrders(t *testing.T) {
	var all seen
	for seed := range 40 {
		r := rand.New(rand.NewSource(int64(seed)))
		blocks := 1 + r.Intn(8)
		free := r.Perm(blocks)
		actors := 2 + r.Intn(7)
		p := begun(t, blocks, free[:r.Intn(blocks+1)], someJobs(r, actors), nil)
		p.actors[0].held = slices.Clone(free[len(p.free):])
		for k := range 4000 {
			i := r.Intn(actors)
			if r.Intn(4) == 0 { // one that goes on alone for a while
				i = k / 40 % actors
			}
			if wrong := p.step(i); wrong != "" {
				t.Fatalf("seed %d, step %d, of the actor %d: %s", seed, k, i, wrong)
			}
		}
		all.add(p.seen)
	}
	all.check(t)
}

// someJobs are a long row for each of n actors; most Takes are for a few lists, so that these are changed often.
func someJobs(r *rand.Rand, n int) [][]job {
	lists := []job{{class: r.Intn(3), set: r.Intn(2)}, {class: r.Intn(3), set: r.Intn(2)}}
	var l [][]job
	for range n {
		var row []job
		for range 1500 {
			switch r.Intn(8) {
			case 0, 1, 2:
				row = append(row, lists[r.Intn(2)])
			case 3:
				row = append(row, job{class: r.Intn(3), set: r.Intn(2)})
			default:
				row = append(row, job{gives: true})
			}
		}
		l = append(l, row)
	}
	return l
}
