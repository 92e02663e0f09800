package list

import (
	"fmt"
	"math/rand"
	"slices"
	"strings"
	"testing"

	"flit/mem"
	"flit/watch"
)

// What an actor does, each a letter.
const (
	popOne  = 'o' // pops a cell, and holds it
	pushOne = 'u' // pushes the cell that it holds longest
	pushRow = 'r' // pushes all that it holds, as one row
)

// actor does operations, one behind the other. A push of nothing is passed over.
type actor struct {
	todo string
	held []int
	pop  *Pop
	push *Push
	row  []int // what push is of
	// whether a CAS of another was done since this one read the head, and which cell that head named
	changed bool
	saw     int
}

// play is actors on one list, and the list as it must be: what a stack is at each moment at which a CAS is done.
type play struct {
	m      *mem.Memory
	actors []actor
	stack  []int
	all    []int // every cell, rising
	idle   int   // steps since an operation ended
	seen   seen
}

// seen tells whether plays had what they are for: how many CAS were false, of Pops, of Pushes, and of either with the same cell first again; how many Pops found none.
type seen struct{ popFails, pushFails, backFails, none int }

func (s *seen) add(o seen) {
	s.popFails += o.popFails
	s.pushFails += o.pushFails
	s.backFails += o.backFails
	s.none += o.none
}

func (s *seen) check(t *testing.T) {
	t.Helper()
	if s.popFails == 0 || s.pushFails == 0 || s.backFails == 0 || s.none == 0 {
		t.Errorf("some case was never met: %+v", *s)
	}
}

// begun is a play of actors with these operations, the actor i holding held[i].
func begun(t *testing.T, stack []int, todo []string, held [][]int) *play {
	p := &play{m: made(t, 0, stack...), stack: stack, all: slices.Concat(stack, slices.Concat(held...))}
	slices.Sort(p.all)
	for i, s := range todo {
		a := actor{todo: s}
		if i < len(held) {
			a.held = held[i]
		}
		p.actors = append(p.actors, a)
	}
	return p
}

// clone goes its own way; what was seen stays behind.
func (p *play) clone() *play {
	c := &play{m: p.m.Clone(), stack: p.stack, all: p.all, idle: p.idle}
	for _, a := range p.actors {
		a.held, a.row = slices.Clone(a.held), slices.Clone(a.row)
		if a.pop != nil {
			x := *a.pop
			a.pop = &x
		}
		if a.push != nil {
			x := *a.push
			a.push = &x
		}
		c.actors = append(c.actors, a)
	}
	return c
}

// begin lets the actor begin its next operation, if none is under way; false: it has none any more.
func (p *play) begin(a *actor) bool {
	for a.pop == nil && a.push == nil {
		if a.todo == "" {
			return false
		}
		op := a.todo[0]
		a.todo = a.todo[1:]
		switch {
		case op == popOne:
			a.pop = NewPop(at)
		case len(a.held) == 0:
			continue
		case op == pushOne:
			p.beginPush(a, 1)
		case op == pushRow:
			p.beginPush(a, len(a.held))
		}
	}
	return true
}

// beginPush links the first n cells that the actor holds; nobody else comes to them.
func (p *play) beginPush(a *actor, n int) {
	a.row, a.held = a.held[:n:n], a.held[n:]
	for i, c := range a.row[:n-1] {
		p.m.Store(c, watch.Free(1, a.row[i+1]))
	}
	p.m.Take()
	a.push = NewPush(at, a.row[0], a.row[n-1], 1)
}

// step is one of the actor i: what is wrong with it, or nothing.
func (p *play) step(i int) string {
	a := &p.actors[i]
	if !p.begin(a) {
		return ""
	}
	count := p.m.Count()
	var done bool
	if a.pop != nil {
		done = a.pop.Step(p.m)
	} else {
		done = a.push.Step(p.m)
	}
	did := p.m.Take()
	if p.m.Count() != count+1 || len(did) != 1 || p.m.Traps() != 0 {
		return fmt.Sprintf("%d accesses, %d traps", p.m.Count()-count, p.m.Traps())
	}
	if d := did[0]; d.Op == 1 && d.At == at {
		a.changed, a.saw = false, int(watch.Word(p.m, at)%4096)
	} else if d.Op == 3 {
		if d.OK == a.changed {
			return fmt.Sprintf("its CAS is %t, while one of another was done: %t", d.OK, a.changed)
		}
		p.countFail(a, d.OK)
	}
	if p.idle++; p.idle > 4*len(p.actors)+1 {
		return fmt.Sprintf("no operation of %d actors ended in %d steps", len(p.actors), p.idle)
	}
	if done {
		p.idle = 0
		if wrong := p.end(i); wrong != "" {
			return wrong
		}
	}
	return p.check()
}

func (p *play) countFail(a *actor, ok bool) {
	switch {
	case ok:
		return
	case a.pop != nil:
		p.seen.popFails++
	default:
		p.seen.pushFails++
	}
	if a.saw == int(watch.Word(p.m, at)%4096) {
		p.seen.backFails++
	}
}

// end does with the stack what the operation that ends did with the list.
func (p *play) end(i int) string {
	a := &p.actors[i]
	if a.push != nil {
		p.stack = slices.Concat(a.row, p.stack)
		a.push, a.row = nil, nil
		p.tellOthers(i)
		return ""
	}
	c, seen := a.pop.Result()
	a.pop = nil
	if len(p.stack) == 0 {
		p.seen.none++
		if c != 0 || seen != watch.Word(p.m, at) {
			return fmt.Sprintf("of an empty list %d is told, the head being %#x", c, seen)
		}
		return ""
	}
	if c != p.stack[0] || int(seen%4096) != c {
		return fmt.Sprintf("%d is told, and the head %#x, the list being %d", c, seen, p.stack)
	}
	p.stack = p.stack[1:]
	a.held = append(a.held, c)
	p.tellOthers(i)
	return ""
}

func (p *play) tellOthers(i int) {
	for k := range p.actors {
		if k != i {
			p.actors[k].changed = true
		}
	}
}

// check holds the list against the stack, and asks whether each cell is at one place.
func (p *play) check() string {
	on := cells(p.m)
	if !slices.Equal(on, p.stack) {
		return fmt.Sprintf("the list has %d, want %d", on, p.stack)
	}
	for _, a := range p.actors {
		on = slices.Concat(on, a.held, a.row)
	}
	slices.Sort(on)
	if !slices.Equal(on, p.all) {
		return fmt.Sprintf("the cells are %d, want %d", on, p.all)
	}
	return ""
}

// everyOrder does each order of steps that there is, from here on.
func (p *play) everyOrder(t *testing.T, so []int) {
	for i, a := range p.actors {
		if a.pop == nil && a.push == nil && (a.todo == "" || len(a.held) == 0 && !strings.ContainsRune(a.todo, popOne)) {
			continue
		}
		c := p.clone()
		order := append(slices.Clone(so), i)
		if wrong := c.step(i); wrong != "" {
			t.Fatalf("steps %d: %s", order, wrong)
		}
		c.everyOrder(t, order)
		p.seen.add(c.seen)
	}
}

// P8.3, in every order of the steps of a few machines: at each moment the list is what it must be, each cell is at one place, and a CAS is false just if one of another was done.
func TestEveryOrder(t *testing.T) {
	var all seen
	for _, x := range []struct {
		stack []int
		todo  []string
		held  [][]int
	}{
		{[]int{96, 100, 64}, []string{"o", "oou"}, nil},
		{[]int{96, 100, 64}, []string{"o", "oor"}, nil},
		{[]int{96, 100}, []string{"o", "ou"}, nil},
		{[]int{96}, []string{"ou", "ou"}, nil},
		{[]int{96}, []string{"u", "ou"}, [][]int{{64}}},
		{nil, []string{"u", "uo"}, [][]int{{64}, {68}}},
		{nil, []string{"r", "ro"}, [][]int{{64, 32, 36}, {68, 72}}},
		{[]int{96, 100}, []string{"o", "o", "o"}, nil},
		{[]int{96}, []string{"o", "o", "u"}, [][]int{nil, nil, {64}}},
		{nil, []string{"u", "r", "u"}, [][]int{{64}, {68, 72}, {32}}},
	} {
		p := begun(t, x.stack, x.todo, x.held)
		p.everyOrder(t, nil)
		if p.seen.popFails+p.seen.pushFails == 0 {
			t.Errorf("%d %s: no CAS was false", x.stack, x.todo)
		}
		all.add(p.seen)
	}
	all.check(t)
}

// P8.3, in orders that a fixed seed gives, of many machines and many operations.
func TestManyOrders(t *testing.T) {
	var all seen
	for seed := range 60 {
		r := rand.New(rand.NewSource(int64(seed)))
		var stack []int
		for c := 32; c < 160 && len(stack) < r.Intn(24); c += 4 {
			stack = append(stack, c)
		}
		r.Shuffle(len(stack), func(i, k int) { stack[i], stack[k] = stack[k], stack[i] })
		held := [][]int{{8, 12, 16}, {20, 24}}
		p := begun(t, stack, someOperations(r, 2+r.Intn(7)), held)
		for k := range 4000 {
			i := r.Intn(len(p.actors))
			if r.Intn(4) == 0 { // one that goes on alone for a while
				i = k / 40 % len(p.actors)
			}
			if wrong := p.step(i); wrong != "" {
				t.Fatalf("seed %d, step %d, of the actor %d: %s", seed, k, i, wrong)
			}
		}
		all.add(p.seen)
	}
	all.check(t)
}

// someOperations are a long row for each of n actors.
func someOperations(r *rand.Rand, n int) []string {
	var l []string
	for range n {
		var b strings.Builder
		for range 900 {
			b.WriteByte("oooouuur"[r.Intn(8)])
		}
		l = append(l, b.String())
	}
	return l
}
