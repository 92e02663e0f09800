package alloc

import (
	"fmt"
	"math/rand"
	"slices"
	"testing"

	"flit/api"
	"flit/carve"
	"flit/list"
	"flit/mem"
	"flit/watch"
)

// kind is what an actor does in a job: it reserves a cell, makes an object, lays the cell that it holds longest onto its list, or gives the first block back all of whose cells it holds.
type kind int

const (
	reserves kind = iota
	allocs
	pushes
	gives
)

// job is one of an actor's: class is of reserves, count and mark are of allocs, set is of both.
type job struct {
	kind        kind
	class, set  int
	count, mark int
}

// cell is one that an actor holds, and what its words were when it was told.
type cell struct {
	at, class, set int
	words          []uint64
}

// nobody is an actor's block, while there is none.
const nobody = -1

// actor does jobs, one behind the other. A job for which it holds nothing is passed over.
type actor struct {
	todo []job
	held []cell
	now  job
	x    watch.Machine // nil: none is under way
	// what the machine has: a block that is taken and not cut, or not given yet; a cell that was taken, or is not pushed yet
	block int
	cell  cell
	// whether there was neither a cell on the list nor a free block at a step of this machine
	nothing bool
	// whether the last step saw that no block is free
	short bool
}

// play is actors on the blocks of one plan, and what all of it must be at each moment: the free blocks, and the lists, as stacks.
type play struct {
	p      api.Plan
	m      *mem.Memory
	actors []actor
	free   []int
	lists  [6][]int
	seen   seen
}

// seen tells whether plays had what they are for: how many cells were popped, and cut from a block; how often a CAS was false, of the blocks and of a list; how often a list was another one than was seen; how often none was told.
type seen struct{ popped, cut, blockFails, listFails, again, none int }

func (s *seen) add(o seen) {
	s.popped += o.popped
	s.cut += o.cut
	s.blockFails += o.blockFails
	s.listFails += o.listFails
	s.again += o.again
	s.none += o.none
}

func (s *seen) check(t *testing.T) {
	t.Helper()
	for _, n := range []int{s.popped, s.cut, s.blockFails, s.listFails, s.again, s.none} {
		if n == 0 {
			t.Errorf("some case was never met: %+v", *s)
		}
	}
}

// begun is a play of actors with these jobs; the actor i holds the cells of a class of the blocks held[i].
func begun(t *testing.T, blocks int, free []int, todo [][]job, class int, held ...[]int) *play {
	p := &play{free: free}
	p.p, p.m = watch.Made(t, 1, blocks, 0, free...)
	for i, l := range todo {
		a := actor{todo: l, block: nobody}
		if i < len(held) {
			for _, b := range held[i] {
				for _, c := range watch.CellsOf(p.p, b, class) {
					a.held = append(a.held, p.cell(c, class, 0))
				}
			}
		}
		p.actors = append(p.actors, a)
	}
	return p
}

// wordsOf is how many words a cell has.
func wordsOf(class int) int { return 4 << class }

// cell is one that stands there, as it is now.
func (p *play) cell(at, class, set int) cell {
	return cell{at, class, set, watch.Words(p.m)[at : at+wordsOf(class)]}
}

// clone goes its own way; what was seen stays behind. (Stacks are made anew whenever they change.)
func (p *play) clone() *play {
	c := *p
	c.m, c.actors, c.seen = p.m.Clone(), slices.Clone(p.actors), seen{}
	for i := range c.actors {
		a := &c.actors[i]
		a.held = slices.Clone(a.held)
		a.x = copied(a.x)
	}
	return &c
}

// copied is a machine that goes its own way.
func copied(x watch.Machine) watch.Machine {
	switch x := x.(type) {
	case *Reserve:
		c := *x
		return &c
	case *Alloc:
		c := *x
		return &c
	case *list.Push:
		c := *x
		return &c
	case *carve.Give:
		c := *x
		return &c
	}
	return nil
}

// begin lets the actor begin its next job, if none is under way; false: it has none any more.
func (p *play) begin(a *actor) bool {
	for a.x == nil {
		if len(a.todo) == 0 {
			return false
		}
		a.now, a.todo = a.todo[0], a.todo[1:]
		a.nothing, a.short = false, false
		switch a.now.kind {
		case reserves:
			a.x = NewReserve(p.p, a.now.class, a.now.set)
		case allocs:
			a.now.class = classOf(a.now.count)
			a.x = NewAlloc(p.p, a.now.count, a.now.mark, a.now.set)
		case pushes:
			p.beginPush(a)
		case gives:
			p.beginGive(a)
		}
	}
	return true
}

func (p *play) beginPush(a *actor) {
	if len(a.held) == 0 {
		return
	}
	a.cell, a.held = a.held[0], a.held[1:]
	a.now.class, a.now.set = a.cell.class, a.cell.set
	a.x = list.NewPush(watch.HeadOf(a.now.set, a.now.class), a.cell.at, a.cell.at, a.now.class)
}

func (p *play) beginGive(a *actor) {
	b := p.wholeBlock(a)
	if b == nobody {
		return
	}
	a.held = slices.DeleteFunc(slices.Clone(a.held), func(c cell) bool { return p.blockOf(c.at) == b })
	a.block = b
	a.x = carve.NewGive(p.p, b)
}

func (p *play) blockOf(at int) int { return (at - p.p.Heap) / 32 }

// wholeBlock is the first block all of whose cells the actor holds.
func (p *play) wholeBlock(a *actor) int {
	words := make([]int, p.p.Blocks)
	for _, c := range a.held {
		words[p.blockOf(c.at)] += wordsOf(c.class)
	}
	return slices.Index(words, 32)
}

// step is one of the actor i: what is wrong with it, or nothing.
func (p *play) step(i int) string {
	a := &p.actors[i]
	if !p.begin(a) {
		return ""
	}
	list := 3*a.now.set + a.now.class
	a.nothing = a.nothing || len(p.lists[list]) == 0 && len(p.free) == 0
	count := p.m.Count()
	done := a.x.Step(p.m)
	did := p.m.Take()
	if p.m.Count() != count+1 || len(did) != 1 || p.m.Traps() != 0 {
		return fmt.Sprintf("%d accesses, %d traps", p.m.Count()-count, p.m.Traps())
	}
	if wrong := p.follow(a, did[0], list); wrong != "" {
		return wrong
	}
	p.note(a, did[0], done)
	if wrong := p.end(a, done); wrong != "" {
		return wrong
	}
	return p.check()
}

// note tells what a step was, for what was seen.
func (p *play) note(a *actor, d api.Access, done bool) {
	if a.short && !done {
		p.seen.again++
	}
	a.short = a.now.kind <= allocs && d.Op == 1 && d.At == api.AtBlocks && len(p.free) == 0
	if d.Op == 3 && !d.OK && d.At == api.AtBlocks {
		p.seen.blockFails++
	} else if d.Op == 3 && !d.OK {
		p.seen.listFails++
	}
}

// follow does with the stacks what an access did. Who stores must have what it stores to.
func (p *play) follow(a *actor, d api.Access, k int) string {
	switch {
	case d.Op == 2 && !p.owns(a, d.At):
		return fmt.Sprintf("a Store to %d, which is not its own", d.At)
	case d.Op == 3 && d.At != api.AtBlocks && d.At != 3+k:
		return fmt.Sprintf("a CAS of the word %d", d.At)
	case d.Op == 3 && d.OK && d.At == api.AtBlocks:
		return p.followBlocks(a)
	case d.Op == 3 && d.OK:
		return p.followList(a, k)
	}
	return ""
}

// owns tells whether a word is of what the actor's machine has, or says something of it.
func (p *play) owns(a *actor, at int) bool {
	c := a.cell
	ofCell := c.at != 0 && at >= c.at && at < c.at+wordsOf(c.class)
	ofBlock := a.block != nobody && (at == p.p.Table+a.block || at >= p.p.Heap && p.blockOf(at) == a.block)
	return ofCell || ofBlock
}

func (p *play) followBlocks(a *actor) string {
	if a.now.kind == gives {
		p.free, a.block = append([]int{a.block}, p.free...), nobody
		return ""
	}
	if a.block != nobody || a.cell.at != 0 || len(p.free) == 0 {
		return fmt.Sprintf("a block is taken; it has the block %d and the cell %d, and %d are free", a.block, a.cell.at, p.free)
	}
	a.block, p.free = p.free[0], p.free[1:]
	return ""
}

func (p *play) followList(a *actor, k int) string {
	switch {
	case a.now.kind == pushes:
		p.lists[k], a.cell = append([]int{a.cell.at}, p.lists[k]...), cell{}
	case a.block != nobody:
		cells := watch.CellsOf(p.p, a.block, a.now.class)
		p.lists[k] = append(cells[1:], p.lists[k]...)
		a.cell, a.block = p.cell(cells[0], a.now.class, a.now.set), nobody
		p.seen.cut++
	case len(p.lists[k]) == 0 || a.cell.at != 0:
		return fmt.Sprintf("a cell is popped; it has the cell %d, and %d are on the list", a.cell.at, p.lists[k])
	default:
		a.cell, p.lists[k] = p.cell(p.lists[k][0], a.now.class, a.now.set), p.lists[k][1:]
		p.seen.popped++
	}
	return ""
}

// end is what a machine must tell, while it is under way, and when it is done.
func (p *play) end(a *actor, done bool) string {
	x, tells := a.x.(teller)
	if !done {
		if tells && x.Cell() != 0 {
			return fmt.Sprintf("Cell is %d ahead of the end", x.Cell())
		}
		return ""
	}
	a.x = nil
	if a.block != nobody || !tells && a.cell.at != 0 {
		return fmt.Sprintf("it is done, with the block %d and the cell %d left", a.block, a.cell.at)
	}
	if !tells {
		return ""
	}
	if x.Cell() != a.cell.at {
		return fmt.Sprintf("Cell is %d, want %d", x.Cell(), a.cell.at)
	}
	if a.cell.at == 0 {
		p.seen.none++
		if !a.nothing {
			return "none is told, but at each of its steps there was a cell or a block"
		}
		return ""
	}
	return p.hold(a)
}

// hold lets the actor hold the cell that its machine told. A new object must be whole.
func (p *play) hold(a *actor) string {
	c := p.cell(a.cell.at, a.cell.class, a.cell.set)
	a.held, a.cell = append(a.held, c), cell{}
	if a.now.kind != allocs {
		return ""
	}
	want := make([]uint64, a.now.count+1)
	want[0] = watch.Object(a.now.class, a.now.count, a.now.mark)
	if got := c.words[:len(want)]; !slices.Equal(got, want) {
		return fmt.Sprintf("the object at %d is %#x, want %#x", c.at, got, want)
	}
	return ""
}

// check holds the memory against the stacks, and what actors hold against what it was; each word of a block must be at one place.
func (p *play) check() string {
	w := watch.Words(p.m)
	places := make([]int, p.p.Size)
	put := func(at, n int) {
		for a := at; a < at+n; a++ {
			places[a]++
		}
	}
	if got := watch.FreeBlocks(p.p, w); !slices.Equal(got, p.free) {
		return fmt.Sprintf("the blocks %d are free, want %d", got, p.free)
	}
	for _, b := range p.free {
		put(p.p.Heap+32*b, 32)
	}
	for k, want := range p.lists {
		if got := watch.Listed(w, 3+k); !slices.Equal(got, want) {
			return fmt.Sprintf("the list %d has %d, want %d", k, got, want)
		}
		for _, c := range want {
			put(c, wordsOf(k%3))
		}
	}
	for _, a := range p.actors {
		for _, c := range a.held {
			put(c.at, wordsOf(c.class))
			if got := w[c.at : c.at+wordsOf(c.class)]; !slices.Equal(got, c.words) {
				return fmt.Sprintf("the cell %d that is held is %#x, was %#x", c.at, got, c.words)
			}
		}
		if a.cell.at != 0 {
			put(a.cell.at, wordsOf(a.cell.class))
		}
		if a.block != nobody {
			put(p.p.Heap+32*a.block, 32)
		}
	}
	for at := p.p.Heap; at < p.p.Size; at++ {
		if places[at] != 1 {
			return fmt.Sprintf("the word %d is at %d places", at, places[at])
		}
	}
	return ""
}

// idle tells whether the actor has nothing to do any more.
func (a *actor) idle() bool { return a.x == nil && len(a.todo) == 0 }

// key is another one of each two plays that go on in other ways.
func (p *play) key() string {
	k := fmt.Sprint(watch.Words(p.m))
	for _, a := range p.actors {
		k += fmt.Sprint(len(a.todo), a.held, a.now, a.block, a.cell, a.nothing, a.short)
		switch x := a.x.(type) {
		case *Reserve:
			k += fmt.Sprint("reserve", *x)
		case *Alloc:
			k += fmt.Sprint("alloc", *x)
		case *list.Push:
			k += fmt.Sprint("push", *x)
		case *carve.Give:
			k += fmt.Sprint("give", *x)
		}
	}
	return k
}

// everyOrder does each order of steps that there is, from here on. What orders have come to is not gone on from once more.
func (p *play) everyOrder(t *testing.T, so []int, come map[string]bool) {
	key := p.key()
	if come[key] {
		return
	}
	come[key] = true
	for i := range p.actors {
		if p.actors[i].idle() {
			continue
		}
		c := p.clone()
		order := append(slices.Clone(so), i)
		if wrong := c.step(i); wrong != "" {
			t.Fatalf("steps %d: %s", order, wrong)
		}
		c.everyOrder(t, order, come)
		p.seen.add(c.seen)
	}
}

// P10.3, in every order of the steps of a few machines: at each moment the free blocks and the lists are what they must be, each word of a block is at one place, who stores has what it stores to; none is told only if at one of its own steps there was nothing.
func TestEveryOrder(t *testing.T) {
	wide, other, mid := job{class: 2}, job{class: 2, set: 1}, job{class: 1}
	push, give := job{kind: pushes}, job{kind: gives}
	small, big := job{kind: allocs, count: 1, mark: 1}, job{kind: allocs, count: 4}
	var all seen
	for _, x := range []struct {
		blocks int
		free   []int
		todo   [][]job
		class  int // of what actors hold
		held   [][]int
	}{
		{1, []int{0}, [][]job{{wide}, {wide}}, 0, nil},
		{1, []int{0}, [][]job{{wide}, {other}}, 0, nil},
		{2, []int{1, 0}, [][]job{{wide}, {wide, wide}}, 0, nil},
		{1, []int{0}, [][]job{{wide}, {wide}, {wide}}, 0, nil},
		{1, []int{0}, [][]job{{wide}, {wide, push}, {wide}}, 0, nil},
		{1, []int{0}, [][]job{{wide, push}, {wide, push, wide}}, 0, nil},
		{1, []int{0}, [][]job{{wide, wide, give}, {other, other, give}}, 0, nil},
		{1, []int{0}, [][]job{{wide}, {wide, wide, give}}, 0, nil},
		{1, nil, [][]job{{wide}, {push, wide, push}}, 2, [][]int{nil, {0}}},
		{1, nil, [][]job{{wide}, {push, push}, {wide}}, 2, [][]int{nil, {0}}},
		{1, nil, [][]job{{wide}, {give}, {wide}}, 2, [][]int{nil, {0}}},
		{2, nil, [][]job{{wide}, {give}, {push, push}}, 2, [][]int{nil, {0}, {1}}},
		{2, []int{1}, [][]job{{wide}, {give, wide}, {wide}}, 2, [][]int{nil, {0}}},
		{2, []int{1}, [][]job{{mid}, {wide}, {give}}, 2, [][]int{nil, nil, {0}}},
		{1, []int{0}, [][]job{{big}, {mid, push}}, 0, nil},
		{1, nil, [][]job{{big}, {push, mid, push}}, 1, [][]int{nil, {0}}},
		{1, []int{0}, [][]job{{small}, {small}}, 0, nil},
		{1, []int{0}, [][]job{{small}, {big}}, 0, nil},
		{2, []int{0}, [][]job{{big, push}, {give, big}}, 2, [][]int{nil, {1}}},
	} {
		p := begun(t, x.blocks, x.free, x.todo, x.class, x.held...)
		p.everyOrder(t, nil, map[string]bool{})
		if s := p.seen; s.popped+s.cut == 0 || s.blockFails+s.listFails+s.again+s.none == 0 {
			t.Errorf("%+v: %+v", x, s)
		}
		all.add(p.seen)
	}
	all.check(t)
}

// P10.3: none is told, though a cell or a block is there when its last step is done: it is enough that there was nothing at an earlier one. And none is told of nothing at a moment that is no step of its own.
func TestNothingAtOwnSteps(t *testing.T) {
	p := begun(t, 1, nil, [][]job{{{class: 2}}, {{kind: gives}}}, 2, nil, []int{0})
	for _, i := range []int{0, 0, 1, 1, 1, 0} {
		mustStep(t, p, i)
	}
	if p.seen.none != 1 || len(p.free) != 1 {
		t.Errorf("%+v, the blocks %d are free", p.seen, p.free)
	}
	// the block is free at the first step, is cut ahead of the second one, and ahead of the third its other cell is popped, and its first one laid back
	p = begun(t, 1, []int{0}, [][]job{{{class: 2}}, {{class: 2}, {class: 2}, {kind: pushes}}}, 0)
	mustStep(t, p, 0)
	for range 9 {
		mustStep(t, p, 1)
	}
	mustStep(t, p, 0)
	for range 6 {
		mustStep(t, p, 1)
	}
	for !p.actors[0].idle() {
		mustStep(t, p, 0)
	}
	if p.seen.none != 0 || p.seen.again != 1 || len(p.actors[0].held) != 1 {
		t.Errorf("%+v, the actor 0 holds %v", p.seen, p.actors[0].held)
	}
}

func mustStep(t *testing.T, p *play, i int) {
	t.Helper()
	if wrong := p.step(i); wrong != "" {
		t.Fatal(wrong)
	}
}

// P10.3, in orders that a fixed seed gives, of many machines and many jobs, of all counts, classes and sets.
func TestManyOrders(t *testing.T) {
	var all seen
	for seed := range 40 {
		r := rand.New(rand.NewSource(int64(seed)))
		blocks := 1 + r.Intn(6)
		l := r.Perm(blocks)
		free := r.Intn(blocks + 1)
		actors := 2 + r.Intn(7)
		p := begun(t, blocks, l[:free], someJobs(r, actors), r.Intn(3), slices.Clone(l[free:]))
		for k := range 3000 {
			i := r.Intn(actors)
			if r.Intn(4) == 0 { // one that goes on alone for a while
				i = k / 40 % actors
			}
			if wrong := p.step(i); wrong != "" {
				t.Fatalf("seed %d, step %d, of the actor %d: %s", seed, k, i, wrong)
			}
		}
		all.add(p.seen)
	}
	all.check(t)
}

// someJobs are a long row for each of n actors; most are for one list, so that it is changed often.
func someJobs(r *rand.Rand, n int) [][]job {
	most := job{class: r.Intn(3), set: r.Intn(2)}
	var l [][]job
	for range n {
		var row []job
		for range 1200 {
			switch r.Intn(10) {
			case 0, 1, 2:
				row = append(row, most)
			case 3:
				row = append(row, job{class: r.Intn(3), set: r.Intn(2)})
			case 4:
				row = append(row, job{kind: allocs, count: r.Intn(8), mark: r.Intn(2), set: r.Intn(2)})
			case 5, 6:
				row = append(row, job{kind: gives})
			default:
				row = append(row, job{kind: pushes})
			}
		}
		l = append(l, row)
	}
	return l
}
