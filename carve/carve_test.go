package carve

import (
	"fmt"
	"math"
	"slices"
	"testing"

	"flit/api"
	"flit/edges"
	"flit/list"
	"flit/mem"
	"flit/plan"
	"flit/watch"
)

func checkCell(t *testing.T, x *Take, want int) {
	t.Helper()
	if got := x.Cell(); got != want {
		t.Errorf("Cell is %d, want %d", got, want)
	}
}

// take takes a block by a machine of its own: which one (-1: none).
func take(t *testing.T, p api.Plan, m *mem.Memory, class, set int) int {
	t.Helper()
	x := NewTake(p, class, set)
	watch.Run(t, x, m)
	return plan.Block(p, x.Cell())
}

// give gives blocks back by machines of their own, one behind the other.
func give(t *testing.T, p api.Plan, m *mem.Memory, blocks ...int) {
	t.Helper()
	for _, b := range blocks {
		if n := watch.Run(t, NewGive(p, b), m); n != 3 {
			t.Errorf("a Give takes %d steps", n)
		}
	}
}

// pushed lays cells of a class, one behind the other, onto a list.
func pushed(t *testing.T, m *mem.Memory, set, class int, cells ...int) {
	t.Helper()
	for _, c := range cells {
		watch.Run(t, list.NewPush(watch.HeadOf(set, class), c, c, class), m)
	}
}

// P9.1: if no block is free, the first step is the last one, and there is no cell, whatever the version is, and what stands above a head's bits.
func TestTakeOfNone(t *testing.T) {
	for _, word := range []uint64{0, watch.Top(0, 1), watch.Top(0, 1<<40-1), 0xfff << 52} {
		for class := range 3 {
			for set := range 2 {
				p, m := watch.Made(t, 1, 2, 0)
				m.Store(api.AtBlocks, word)
				want := watch.Words(m)
				x := NewTake(p, class, set)
				checkCell(t, x, 0)
				watch.Step(t, x, m, watch.Load(api.AtBlocks), true)
				checkCell(t, x, 0)
				watch.CheckDone(t, x, m)
				checkCell(t, x, 0)
				watch.CheckWords(t, m, want)
			}
		}
	}
}

// P9.1: each step of a Take, of each class and set, with what all words are behind it.
func TestTake(t *testing.T) {
	for _, x := range []struct {
		threads, blocks, version int
		free                     []int
	}{
		{1, 1, 0, []int{0}},
		{1, 2, 0, []int{0, 1}},
		{1, 2, 5, []int{1, 0}},
		{1, 2, 1<<40 - 1, []int{1}},
		{2, 4, 1<<40 - 2, []int{2, 0, 3}},
		{64, 64, 77, []int{63, 0, 62}},
		{64, 64, 77, []int{5, 63}},
	} {
		for class := range 3 {
			for set := range 2 {
				for _, listVersion := range []int{0, 9, 1<<40 - 1} {
					p, m := watch.Made(t, x.threads, x.blocks, x.version, x.free...)
					at := watch.HeadOf(set, class)
					m.Store(at, watch.Top(0, listVersion))
					takeStepByStep(t, p, m, x.free, class, set)
					if got := watch.Word(m, at) >> 12; got != uint64(listVersion+1)%(1<<40) {
						t.Errorf("the list's version is %d", got)
					}
				}
			}
		}
	}
}

// P9.1: so it is if there are cells on the list; they are behind those of the block. Lists of other sets and classes stay as they are.
func TestTakeOntoCells(t *testing.T) {
	for class := range 3 {
		for set := range 2 {
			p, m := watch.Made(t, 1, 3, 4, 1, 2)
			old := watch.CellsOf(p, 0, class)
			pushed(t, m, set, class, old[1], old[0])
			pushed(t, m, 1-set, class, p.Heap+12)
			pushed(t, m, set, (class+1)%3, p.Heap+28)
			takeStepByStep(t, p, m, []int{1, 2}, class, set)
			watch.CheckListed(t, m, set, class, append(watch.CellsOf(p, 1, class)[1:], old[0], old[1])...)
			watch.CheckListed(t, m, 1-set, class, p.Heap+12)
			watch.CheckListed(t, m, set, (class+1)%3, p.Heap+28)
		}
	}
}

// takeStepByStep takes the first one of these free blocks, and holds all words against what they must be behind each step.
func takeStepByStep(t *testing.T, p api.Plan, m *mem.Memory, free []int, class, set int) {
	t.Helper()
	entry, at := p.Table+free[0], watch.HeadOf(set, class)
	cells := watch.CellsOf(p, free[0], class)
	last := cells[len(cells)-1]
	next := 0
	if len(free) > 1 {
		next = free[1] + 1
	}
	want := watch.Words(m)
	old := want[at]
	x := NewTake(p, class, set)
	step := func(a api.Access, done bool) {
		t.Helper()
		checkCell(t, x, 0)
		watch.Step(t, x, m, a, done)
		watch.CheckWords(t, m, want)
	}
	step(watch.Load(api.AtBlocks), false)
	step(watch.Load(entry), false)
	want[api.AtBlocks] = watch.Top(next, int((want[api.AtBlocks]>>12+1)%(1<<40)))
	step(watch.CAS(api.AtBlocks, true), false)
	want[entry] = watch.Block(api.BlockUsed, class, set, 0)
	step(watch.Store(entry), false)
	for k, c := range cells[1:] {
		want[c] = watch.Free(class, 0)
		if c != last {
			want[c] = watch.Free(class, cells[k+2])
		}
		step(watch.Store(c), false)
	}
	step(watch.Load(at), false)
	want[last] = watch.Free(class, int(old%4096))
	step(watch.Store(last), false)
	want[at] = watch.Top(cells[1], int((old>>12+1)%(1<<40)))
	step(watch.CAS(at, true), true)
	checkCell(t, x, cells[0])
	watch.CheckDone(t, x, m)
	checkCell(t, x, cells[0])
	watch.CheckFree(t, p, m, free[1:]...)
}

// P9.1: how many steps a Take has, alone.
func TestStepsOfTake(t *testing.T) {
	for class, want := range []int{14, 10, 8} {
		for set := range 2 {
			p, m := watch.Made(t, 1, 2, 0, 0, 1)
			x := NewTake(p, class, set)
			if n := watch.Run(t, x, m); n != want || m.Traps() != 0 {
				t.Errorf("class %d: %d steps, %d traps, want %d steps", class, n, m.Traps(), want)
			}
			checkCell(t, x, 32)
		}
	}
}

// P9.1, P9.2: of the head all bits count; of what the table says of a free block Next alone does.
func TestOtherBits(t *testing.T) {
	const beyond uint64 = 0xfff << 52
	p, m := watch.Made(t, 1, 3, 4, 2, 0, 1)
	m.Store(api.AtBlocks, watch.Top(3, 4)|beyond)
	m.Store(p.Table+2, watch.Junk&^(127<<5)|1<<5)
	if b := take(t, p, m, 2, 0); b != 2 {
		t.Errorf("the block %d is taken", b)
	}
	watch.CheckWord(t, m, api.AtBlocks, watch.Top(1, 5))
	m.Store(api.AtBlocks, watch.Top(1, 5)|beyond)
	give(t, p, m, 2)
	watch.CheckWord(t, m, api.AtBlocks, watch.Top(3, 6))
	watch.CheckWord(t, m, p.Table+2, watch.Block(api.BlockFree, 0, 0, 1))
	x, y := NewTake(p, 2, 0), NewGive(p, 5)
	for range 2 {
		x.Step(m)
		y.Step(m)
	}
	m.Store(api.AtBlocks, watch.Top(3, 6)|1<<63)
	watch.Step(t, x, m, watch.CAS(api.AtBlocks, false), false)
	watch.Step(t, y, m, watch.CAS(api.AtBlocks, false), false)
}

// P9.1: what another does while a Take is at its first steps: the CAS is false, all words stay, and it goes on at its step 1, with what is free then.
func TestTakeAnew(t *testing.T) {
	for _, x := range []struct {
		name  string
		free  []int
		other func(p api.Plan, m *mem.Memory)
		block int // that is taken then (-1: none)
		left  []int
	}{
		{"the first is taken", []int{0, 1, 2}, func(p api.Plan, m *mem.Memory) { take(t, p, m, 1, 1) }, 1, []int{2}},
		{"the last is taken", []int{0}, func(p api.Plan, m *mem.Memory) { take(t, p, m, 1, 1) }, -1, nil},
		{"one is given", []int{0, 1}, func(p api.Plan, m *mem.Memory) { give(t, p, m, 3) }, 3, []int{0, 1}},
		{"the first is back", []int{0, 1}, func(p api.Plan, m *mem.Memory) { take(t, p, m, 1, 1); give(t, p, m, 0) }, 0, []int{1}},
		{"the first is back, the next is gone", []int{0, 1, 2}, func(p api.Plan, m *mem.Memory) {
			take(t, p, m, 1, 1)
			take(t, p, m, 1, 1)
			give(t, p, m, 0)
		}, 0, []int{2}},
		{"the first is back, ahead of another", []int{0, 1}, func(p api.Plan, m *mem.Memory) {
			take(t, p, m, 1, 1)
			give(t, p, m, 3, 0)
		}, 0, []int{3, 1}},
		{"all are back, the other way round", []int{0, 1}, func(p api.Plan, m *mem.Memory) {
			take(t, p, m, 1, 1)
			take(t, p, m, 1, 1)
			give(t, p, m, 0, 1)
		}, 1, []int{0}},
	} {
		for steps := 1; steps <= 2; steps++ {
			t.Run(fmt.Sprintf("%s, %d steps", x.name, steps), func(t *testing.T) {
				p, m := watch.Made(t, 1, 4, 0, x.free...)
				k := NewTake(p, 2, 0)
				for range steps {
					k.Step(m)
				}
				x.other(p, m)
				if steps == 1 {
					watch.Step(t, k, m, watch.Load(p.Table+x.free[0]), false)
				}
				before := watch.Words(m)
				watch.Step(t, k, m, watch.CAS(api.AtBlocks, false), false)
				watch.CheckWords(t, m, before)
				checkCell(t, k, 0)
				if x.block < 0 {
					watch.Step(t, k, m, watch.Load(api.AtBlocks), true)
					checkCell(t, k, 0)
					watch.CheckDone(t, k, m)
					return
				}
				takeOn(t, p, k, m, x.block)
				watch.CheckFree(t, p, m, x.left...)
			})
		}
	}
}

// takeOn is a Take of class 2, set 0, from its step 1 to its end, with nobody in between.
func takeOn(t *testing.T, p api.Plan, k *Take, m *mem.Memory, block int) {
	t.Helper()
	c := watch.CellsOf(p, block, 2)
	watch.Step(t, k, m, watch.Load(api.AtBlocks), false)
	watch.Step(t, k, m, watch.Load(p.Table+block), false)
	watch.Step(t, k, m, watch.CAS(api.AtBlocks, true), false)
	watch.Step(t, k, m, watch.Store(p.Table+block), false)
	watch.Step(t, k, m, watch.Store(c[1]), false)
	watch.Step(t, k, m, watch.Load(watch.HeadOf(0, 2)), false)
	watch.Step(t, k, m, watch.Store(c[1]), false)
	checkCell(t, k, 0)
	watch.Step(t, k, m, watch.CAS(watch.HeadOf(0, 2), true), true)
	checkCell(t, k, c[0])
	watch.CheckListed(t, m, 0, 2, c[1])
	watch.CheckWord(t, m, p.Table+block, watch.Block(api.BlockUsed, 2, 0, 0))
}

// P9.1: behind its CAS a Take has its block, whatever others do with the free ones.
func TestTakeIsNotHeldUpByBlocks(t *testing.T) {
	p, m := watch.Made(t, 1, 3, 0, 0, 1)
	x := NewTake(p, 2, 0)
	for k := range 3 {
		x.Step(m)
		if k < 2 {
			watch.CheckFree(t, p, m, 0, 1)
		}
	}
	watch.CheckFree(t, p, m, 1)
	give(t, p, m, 2)
	take(t, p, m, 0, 1)
	take(t, p, m, 1, 1)
	if n := watch.Run(t, x, m); n != 5 {
		t.Errorf("%d more steps", n)
	}
	checkCell(t, x, p.Heap)
	watch.CheckFree(t, p, m)
}

// P9.1: the list's CAS is false, if another's was done since the list's first step: the steps of the list go on, with the block that was taken. (The block 1 has the cells 64, 72, 80 and 88; 40 and 48 are of the block 0.)
func TestTakeOfListAnew(t *testing.T) {
	at := watch.HeadOf(1, 1)
	for _, x := range []struct {
		name  string
		other func(p api.Plan, m *mem.Memory)
		left  []int // what is on the list then
	}{
		{"one is pushed", func(p api.Plan, m *mem.Memory) { pushed(t, m, 1, 1, 48) }, []int{48, 40}},
		{"one is popped", func(p api.Plan, m *mem.Memory) { watch.Run(t, list.NewPop(at), m) }, nil},
		{"one is back", func(p api.Plan, m *mem.Memory) {
			watch.Run(t, list.NewPop(at), m)
			pushed(t, m, 1, 1, 40)
		}, []int{40}},
		{"a block is taken", func(p api.Plan, m *mem.Memory) { take(t, p, m, 1, 1) }, []int{136, 144, 152, 40}},
	} {
		for steps := 8; steps <= 9; steps++ {
			t.Run(fmt.Sprintf("%s, %d steps", x.name, steps), func(t *testing.T) {
				p, m := watch.Made(t, 1, 4, 0, 1, 3)
				pushed(t, m, 1, 1, 40)
				k := NewTake(p, 1, 1)
				for range steps {
					k.Step(m)
				}
				x.other(p, m)
				if steps == 8 {
					watch.Step(t, k, m, watch.Store(88), false)
				}
				watch.CheckListed(t, m, 1, 1, x.left...)
				watch.Step(t, k, m, watch.CAS(at, false), false)
				watch.CheckListed(t, m, 1, 1, x.left...)
				checkCell(t, k, 0)
				watch.Step(t, k, m, watch.Load(at), false)
				watch.Step(t, k, m, watch.Store(88), false)
				checkCell(t, k, 0)
				watch.Step(t, k, m, watch.CAS(at, true), true)
				checkCell(t, k, 64)
				watch.CheckListed(t, m, 1, 1, append([]int{72, 80, 88}, x.left...)...)
				watch.CheckDone(t, k, m)
			})
		}
	}
}

// P9.1: an access of another that is no CAS of the list's head, or of another list, or of the blocks, lets the list's CAS be done.
func TestTakeAmongOthersSteps(t *testing.T) {
	p, m := watch.Made(t, 1, 4, 0, 0, 1, 2)
	x, y := NewTake(p, 2, 1), NewTake(p, 2, 1)
	for range 7 {
		x.Step(m)
	}
	for range 7 {
		y.Step(m)
	}
	take(t, p, m, 2, 0)
	give(t, p, m, 3)
	watch.Step(t, x, m, watch.CAS(watch.HeadOf(1, 2), true), true)
	watch.Step(t, y, m, watch.CAS(watch.HeadOf(1, 2), false), false)
	if n := watch.Run(t, y, m); n != 3 {
		t.Errorf("%d more steps", n)
	}
	checkCell(t, x, p.Heap)
	checkCell(t, y, p.Heap+32)
	watch.CheckListed(t, m, 1, 2, p.Heap+48, p.Heap+16)
}

// P9.2: each step of a Give, onto no free block and onto some, with what all words are behind it.
func TestGive(t *testing.T) {
	for _, x := range []struct {
		threads, blocks, version, block int
		free                            []int
	}{
		{1, 1, 0, 0, nil},
		{1, 2, 6, 1, nil},
		{1, 2, 1<<40 - 1, 0, []int{1}},
		{2, 4, 1<<40 - 2, 3, []int{2, 0, 1}},
		{64, 64, 3, 63, []int{0, 62}},
		{64, 64, 3, 0, []int{63}},
	} {
		for _, entry := range []uint64{0, watch.Junk, watch.Block(api.BlockUsed, 2, 1, 0), watch.Block(api.BlockEvac, 0, 0, 9)} {
			p, m := watch.Made(t, x.threads, x.blocks, x.version, x.free...)
			m.Store(p.Table+x.block, entry)
			want := watch.Words(m)
			first := 0
			if len(x.free) > 0 {
				first = x.free[0] + 1
			}
			g := NewGive(p, x.block)
			watch.Step(t, g, m, watch.Load(api.AtBlocks), false)
			watch.CheckWords(t, m, want)
			want[p.Table+x.block] = watch.Block(api.BlockFree, 0, 0, first)
			watch.Step(t, g, m, watch.Store(p.Table+x.block), false)
			watch.CheckWords(t, m, want)
			want[api.AtBlocks] = watch.Top(x.block+1, (x.version+1)%(1<<40))
			watch.Step(t, g, m, watch.CAS(api.AtBlocks, true), true)
			watch.CheckWords(t, m, want)
			watch.CheckDone(t, g, m)
			watch.CheckFree(t, p, m, append([]int{x.block}, x.free...)...)
		}
	}
}

// P9.2: a Give whose head is another one, though it names the same block, or none again, begins anew: what the table says is written once more.
func TestGiveAnew(t *testing.T) {
	for _, x := range []struct {
		name  string
		free  []int
		other func(p api.Plan, m *mem.Memory)
		want  []int
	}{
		{"the first is taken", []int{0, 1}, func(p api.Plan, m *mem.Memory) { take(t, p, m, 0, 0) }, []int{1}},
		{"the last is taken", []int{0}, func(p api.Plan, m *mem.Memory) { take(t, p, m, 0, 0) }, nil},
		{"one is given", []int{0}, func(p api.Plan, m *mem.Memory) { give(t, p, m, 2) }, []int{2, 0}},
		{"one is given onto none", nil, func(p api.Plan, m *mem.Memory) { give(t, p, m, 2) }, []int{2}},
		{"the first is back", []int{0, 1}, func(p api.Plan, m *mem.Memory) { take(t, p, m, 0, 0); give(t, p, m, 0) }, []int{0, 1}},
		{"none is free again", nil, func(p api.Plan, m *mem.Memory) { give(t, p, m, 2); take(t, p, m, 0, 0) }, nil},
	} {
		for steps := 1; steps <= 2; steps++ {
			t.Run(fmt.Sprintf("%s, %d steps", x.name, steps), func(t *testing.T) {
				p, m := watch.Made(t, 1, 4, 0, x.free...)
				entry := p.Table + 3
				g := NewGive(p, 3)
				for range steps {
					g.Step(m)
				}
				x.other(p, m)
				if steps == 1 {
					watch.Step(t, g, m, watch.Store(entry), false)
				}
				watch.Step(t, g, m, watch.CAS(api.AtBlocks, false), false)
				watch.CheckFree(t, p, m, x.want...)
				watch.Step(t, g, m, watch.Load(api.AtBlocks), false)
				watch.Step(t, g, m, watch.Store(entry), false)
				first := 0
				if len(x.want) > 0 {
					first = x.want[0] + 1
				}
				watch.CheckWord(t, m, entry, watch.Block(api.BlockFree, 0, 0, first))
				watch.Step(t, g, m, watch.CAS(api.AtBlocks, true), true)
				watch.CheckFree(t, p, m, append([]int{3}, x.want...)...)
				watch.CheckDone(t, g, m)
			})
		}
	}
}

// P9.1, P9.2: what was given back last is taken first, and each block once.
func TestLastGivenIsFirstTaken(t *testing.T) {
	p, m := watch.Made(t, 3, 6, 0)
	order := []int{4, 0, 5, 2}
	give(t, p, m, order...)
	for i, b := range slices.Backward(order) {
		if got := take(t, p, m, i%3, i%2); got != b {
			t.Errorf("the block %d is taken, want %d", got, b)
		}
	}
	if got := take(t, p, m, 0, 0); got != -1 {
		t.Errorf("the block %d is taken twice", got)
	}
	give(t, p, m, 5)
	if got := take(t, p, m, 0, 0); got != 5 {
		t.Errorf("the block %d is taken, want 5", got)
	}
}

// P9.1, P9.2: all blocks of a plan are taken, of every class, and given back; no step is a trap.
func TestAllBlocks(t *testing.T) {
	for _, n := range []int{1, 2, 22, 23, 63, 64} {
		p, m := watch.Made(t, n, n, 0)
		for b := range n {
			give(t, p, m, b)
		}
		for class := range 3 {
			var all []int
			for k := range n {
				b := take(t, p, m, class, k%2)
				all = append(all, b)
				watch.CheckWord(t, m, plan.Entry(p, b), watch.Block(api.BlockUsed, class, k%2, 0))
			}
			if b := take(t, p, m, class, 0); b != -1 {
				t.Errorf("the block %d is taken twice", b)
			}
			slices.Sort(all)
			if all[0] != 0 || all[n-1] != n-1 || len(slices.Compact(all)) != n {
				t.Errorf("of %d blocks these are taken: %d", n, all)
			}
			for b := range n {
				give(t, p, m, b)
			}
		}
		if m.Traps() != 0 {
			t.Errorf("%d traps", m.Traps())
		}
	}
}

// P9.1: the chapter's examples.
func TestExamples(t *testing.T) {
	p, m := watch.Made(t, 1, 2, 0, 0, 1)
	if p.Table != 11 || p.Heap != 32 {
		t.Fatalf("the plan is %+v", p)
	}
	x := NewTake(p, 1, 0)
	for k := 1; k <= 10; k++ {
		if got := x.Step(m); got != (k == 10) {
			t.Errorf("the step %d tells %t", k, got)
		}
	}
	checkCell(t, x, 32)
	y := list.NewPop(plan.List(0, 1))
	watch.Run(t, y, m)
	if c, _ := y.Result(); c != 40 {
		t.Errorf("the cell %d is popped", c)
	}
}

// R6: a new machine does no access; what it does hangs on its steps' moments.
func TestMachinesAreOfTheirSteps(t *testing.T) {
	p, m := watch.Made(t, 1, 3, 0)
	n := m.Count()
	x, y := NewTake(p, 0, 0), NewGive(p, 2)
	if m.Count() != n {
		t.Errorf("%d accesses of new machines", m.Count()-n)
	}
	give(t, p, m, 0, 1)
	watch.Run(t, y, m)
	watch.CheckFree(t, p, m, 2, 1, 0)
	watch.Run(t, x, m)
	checkCell(t, x, p.Heap+64)
	give(t, p, m, 2)
	take(t, p, m, 1, 0)
	checkCell(t, x, p.Heap+64)
}

// R6: a copy of a machine goes its own way, at each step of it.
func TestCopiesGoTheirOwnWay(t *testing.T) {
	for steps := range 8 {
		p, m := watch.Made(t, 1, 3, 0, 0, 1, 2)
		x := NewTake(p, 2, 1)
		for range steps {
			x.Step(m)
		}
		y, n := *x, m.Clone()
		watch.Run(t, x, m)
		want := watch.Words(m)
		checkCell(t, &y, 0)
		if more := watch.Run(t, &y, n); more != 8-steps {
			t.Errorf("the copy takes %d more steps", more)
		}
		checkCell(t, x, p.Heap)
		checkCell(t, &y, p.Heap)
		watch.CheckWords(t, m, want)
		watch.CheckWords(t, n, want)
	}
	for steps := range 3 {
		p, m := watch.Made(t, 1, 3, 0, 0)
		x := NewGive(p, 2)
		for range steps {
			x.Step(m)
		}
		y, n := *x, m.Clone()
		watch.Run(t, x, m)
		want := watch.Words(m)
		if more := watch.Run(t, &y, n); more != 3-steps {
			t.Errorf("the copy takes %d more steps", more)
		}
		watch.CheckWords(t, n, want)
	}
}

// R1: whatever the numbers are, each Step ends, and does one access, till the machine is done.
func TestWrongNumbers(t *testing.T) {
	for _, n := range edges.Numbers() {
		p, m := watch.Made(t, 1, 2, 0, 0, 1)
		lost := api.Plan{Threads: n, Blocks: n, Table: n, Heap: n, Size: n}
		for _, x := range []watch.Machine{
			NewTake(p, n, 0), NewTake(p, 1, n), NewTake(p, n, n), NewTake(lost, 1, 1), NewTake(lost, n, n),
			NewGive(p, n), NewGive(lost, 0), NewGive(lost, n),
		} {
			m := m.Clone()
			for range 40 {
				count := m.Count()
				if x.Step(m) {
					watch.CheckDone(t, x, m)
					break
				}
				if m.Count() != count+1 {
					t.Fatalf("%d: %d accesses of one step", n, m.Count()-count)
				}
			}
		}
	}
}

// R1, P9.2: a block that there is not is taken modulo what its bits hold; its word of the table is a trap, if there is none.
func TestGiveOfNoBlock(t *testing.T) {
	for _, n := range []int{64, 127, 4095, 1 << 20, math.MaxInt, math.MinInt} {
		p, m := watch.Made(t, 1, 1, 7)
		if steps := watch.Run(t, NewGive(p, n), m); steps != 3 {
			t.Errorf("%d steps", steps)
		}
		watch.CheckWord(t, m, api.AtBlocks, watch.Top(int((edges.Modulo(n, 12)+1)%4096), 8))
	}
}

// R1: a first block that there is not: a Take goes by what it reads. A head that the memory does not have: a Take finds none, a Give goes on for ever.
func TestMemoryThatIsShort(t *testing.T) {
	p, m := watch.Made(t, 1, 1, 0)
	m.Store(api.AtBlocks, watch.Top(4095, 3))
	x := NewTake(p, 2, 0)
	if n := watch.Run(t, x, m); n != 8 {
		t.Errorf("%d steps", n)
	}
	watch.CheckWord(t, m, api.AtBlocks, watch.Top(0, 4))
	short, e := mem.New(2)
	if e != api.OK {
		t.Fatalf("mem.New: error %d", e)
	}
	y := NewTake(p, 0, 0)
	if !y.Step(short) || short.Count() != 1 || short.Traps() != 1 {
		t.Errorf("%d accesses, %d traps", short.Count(), short.Traps())
	}
	checkCell(t, y, 0)
	z := NewGive(p, 0)
	for k := range 9 {
		if z.Step(short) || short.Count() != 2+k {
			t.Errorf("a Give without a head: %d accesses of %d steps", short.Count()-1, k+1)
		}
	}
}

// R1: machines that nobody made are done, with none.
func TestMadeByNobody(t *testing.T) {
	_, m := watch.Made(t, 1, 1, 0, 0)
	watch.CheckDone(t, &Take{}, m)
	watch.CheckDone(t, &Give{}, m)
	checkCell(t, &Take{}, 0)
}
