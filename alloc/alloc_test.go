package alloc

import (
	"fmt"
	"slices"
	"testing"

	"flit/api"
	"flit/carve"
	"flit/edges"
	"flit/list"
	"flit/mem"
	"flit/plan"
	"flit/watch"
)

// beyond are bits of a word above those of a list's head.
const beyond uint64 = 0xfff << 52

// teller is a machine that tells a cell.
type teller interface {
	watch.Machine
	Cell() int
}

// look is a machine of which each step is looked at: which access it does, what all words are behind it, and that it tells no cell ahead of its end.
type look struct {
	t    *testing.T
	p    api.Plan
	m    *mem.Memory
	x    teller
	want []uint64
}

func lookAt(t *testing.T, p api.Plan, m *mem.Memory, x teller) *look {
	return &look{t, p, m, x, watch.Words(m)}
}

func (l *look) step(a api.Access, done bool) {
	l.t.Helper()
	checkCell(l.t, l.x, 0)
	watch.Step(l.t, l.x, l.m, a, done)
	watch.CheckWords(l.t, l.m, l.want)
}

// end holds what is told against what it must be; the machine must be done.
func (l *look) end(cell int) {
	l.t.Helper()
	checkCell(l.t, l.x, cell)
	watch.CheckDone(l.t, l.x, l.m)
	checkCell(l.t, l.x, cell)
	watch.CheckWords(l.t, l.m, l.want)
}

// pop is a Pop of the first cell that is on the list whose head stands at that address: which one.
func (l *look) pop(at int, done bool) int {
	l.t.Helper()
	cell := int(l.want[at] % 4096)
	l.step(watch.Load(at), false)
	l.step(watch.Load(cell), false)
	l.want[at] = l.headBehind(at, int(l.want[cell]>>12%4096))
	l.step(watch.CAS(at, true), done)
	return cell
}

// headBehind is the word that takes the place of a head.
func (l *look) headBehind(at, first int) uint64 {
	return watch.Top(first, int((l.want[at]>>12+1)%(1<<40)))
}

// take is a Take of the first free block, for cells of a class: the cell that is kept.
func (l *look) take(class, set int, done bool) int {
	l.t.Helper()
	at := watch.HeadOf(set, class)
	block := int(l.want[api.AtBlocks]%4096) - 1
	entry := l.p.Table + block
	cells := watch.CellsOf(l.p, block, class)
	last := cells[len(cells)-1]
	l.step(watch.Load(api.AtBlocks), false)
	l.step(watch.Load(entry), false)
	l.want[api.AtBlocks] = l.headBehind(api.AtBlocks, int(l.want[entry]>>5%128))
	l.step(watch.CAS(api.AtBlocks, true), false)
	l.want[entry] = watch.Block(api.BlockUsed, class, set, 0)
	l.step(watch.Store(entry), false)
	for k, c := range cells[1:] {
		link := 0
		if c != last {
			link = cells[k+2]
		}
		l.want[c] = watch.Free(class, link)
		l.step(watch.Store(c), false)
	}
	l.step(watch.Load(at), false)
	l.want[last] = watch.Free(class, int(l.want[at]%4096))
	l.step(watch.Store(last), false)
	l.want[at] = l.headBehind(at, cells[1])
	l.step(watch.CAS(at, true), done)
	return cells[0]
}

// none is what a Reserve does that finds nothing.
func (l *look) none(set, class int) {
	l.t.Helper()
	at := watch.HeadOf(set, class)
	l.step(watch.Load(at), false)
	l.step(watch.Load(api.AtBlocks), false)
	l.step(watch.Load(at), true)
}

// object is what an Alloc does behind the steps of its Reserve.
func (l *look) object(cell, class, count, mark int) {
	l.t.Helper()
	for f := 1; f <= count; f++ {
		l.want[cell+f] = 0
		l.step(watch.Store(cell+f), false)
	}
	l.want[cell] = watch.Object(class, count, mark)
	l.step(watch.Store(cell), true)
}

func checkCell(t *testing.T, x teller, want int) {
	t.Helper()
	if got := x.Cell(); got != want {
		t.Errorf("Cell is %d, want %d", got, want)
	}
}

// pushed lays cells of a class, one behind the other, onto a list.
func pushed(t *testing.T, m *mem.Memory, set, class int, cells ...int) {
	t.Helper()
	for _, c := range cells {
		watch.Run(t, list.NewPush(watch.HeadOf(set, class), c, c, class), m)
	}
}

// popped takes so many cells off a list.
func popped(t *testing.T, m *mem.Memory, set, class, n int) {
	t.Helper()
	for range n {
		watch.Run(t, list.NewPop(watch.HeadOf(set, class)), m)
	}
}

// given lets a block be free.
func given(t *testing.T, p api.Plan, m *mem.Memory, block int) {
	t.Helper()
	watch.Run(t, carve.NewGive(p, block), m)
}

// reserve takes a cell by a machine of its own.
func reserve(t *testing.T, p api.Plan, m *mem.Memory, class, set int) int {
	t.Helper()
	x := NewReserve(p, class, set)
	watch.Run(t, x, m)
	return x.Cell()
}

// classOf is the class of an object, said here once more.
func classOf(count int) int {
	if count <= 3 {
		return 0
	}
	return 1
}

// others lays a cell of the block, whose cells must be in use, onto each list but that of the set and class.
func others(t *testing.T, p api.Plan, m *mem.Memory, block, set, class int) {
	t.Helper()
	for s := range 2 {
		for c := range 3 {
			if s != set || c != class {
				pushed(t, m, s, c, p.Heap+32*block+4*(3*s+c))
			}
		}
	}
}

// eachList calls of each set and class.
func eachList(f func(set, class int)) {
	for set := range 2 {
		for class := range 3 {
			f(set, class)
		}
	}
}

// P10.1: with a cell on its list a Reserve is a Pop: three steps, the first cell, whether a block is free or not; no other list is looked at.
func TestReserveFromList(t *testing.T) {
	eachList(func(set, class int) {
		for _, free := range [][]int{nil, {2}, {3, 2}} {
			for _, version := range []int{0, 5, 1<<40 - 1} {
				p, m := watch.Made(t, 2, 4, 3, free...)
				at := watch.HeadOf(set, class)
				m.Store(at, watch.Top(0, version))
				others(t, p, m, 1, set, class)
				cells := watch.CellsOf(p, 0, class)
				pushed(t, m, set, class, cells...)
				for i := range cells {
					l := lookAt(t, p, m, NewReserve(p, class, set))
					l.pop(at, true)
					l.end(cells[len(cells)-1-i])
				}
				watch.CheckFree(t, p, m, free...)
			}
		}
	})
}

// P10.1: with an empty list, and a block free, a Reserve is the one step of its Pop, and all of its Take; it tells the first cell of the block, and the others are on the list then.
func TestReserveOfBlock(t *testing.T) {
	eachList(func(set, class int) {
		for _, x := range []struct {
			threads, blocks, version, listVersion int
			free, used                            []int
		}{
			{1, 1, 0, 0, []int{0}, nil},
			{1, 2, 4, 9, []int{1}, []int{0}},
			{2, 4, 1<<40 - 1, 1<<40 - 1, []int{2, 3, 0}, []int{1}},
			{64, 64, 77, 1, []int{63, 0}, []int{31}},
		} {
			p, m := watch.Made(t, x.threads, x.blocks, x.version, x.free...)
			for _, b := range x.used {
				others(t, p, m, b, set, class)
			}
			at := watch.HeadOf(set, class)
			m.Store(at, watch.Top(0, x.listVersion))
			n := m.Count()
			l := lookAt(t, p, m, NewReserve(p, class, set))
			l.step(watch.Load(at), false)
			l.take(class, set, true)
			cells := watch.CellsOf(p, x.free[0], class)
			l.end(cells[0])
			if got, want := m.Count()-n, []int{15, 11, 9}[class]; got != want {
				t.Errorf("class %d: %d steps, want %d", class, got, want)
			}
			watch.CheckListed(t, m, set, class, cells[1:]...)
			watch.CheckFree(t, p, m, x.free[1:]...)
		}
	})
}

// P10.1: with neither a Reserve has three steps, the last of which loads the list's word; there is no cell, and no word changes. All bits of the word are held against what was seen.
func TestReserveOfNone(t *testing.T) {
	eachList(func(set, class int) {
		for _, word := range []uint64{0, watch.Top(0, 1), watch.Top(0, 1<<40-1), beyond, watch.Top(0, 7) | 1<<52} {
			for _, blocks := range []uint64{0, watch.Top(0, 3), beyond} {
				p, m := watch.Made(t, 1, 2, 0)
				others(t, p, m, 0, set, class)
				m.Store(watch.HeadOf(set, class), word)
				m.Store(api.AtBlocks, blocks)
				l := lookAt(t, p, m, NewReserve(p, class, set))
				l.none(set, class)
				l.end(0)
			}
		}
	})
}

// P10.1: what another does between the Pop that finds none and the step that reads the list once more: that step is not the last one, and a new Pop, and a new Take, go by what is there then. (The block 0 is in use, 1 is free or in use, 2 is in use.)
func TestReserveAnew(t *testing.T) {
	eachList(func(set, class int) {
		at := watch.HeadOf(set, class)
		for _, x := range []struct {
			name  string
			other func(p api.Plan, m *mem.Memory)
			then  func(l *look) int
		}{
			{"a cell is pushed", func(p api.Plan, m *mem.Memory) {
				pushed(t, m, set, class, p.Heap)
			}, func(l *look) int { return l.pop(at, true) }},
			{"two are pushed", func(p api.Plan, m *mem.Memory) {
				pushed(t, m, set, class, p.Heap, p.Heap+16)
			}, func(l *look) int { return l.pop(at, true) }},
			{"a cell is pushed, and popped", func(p api.Plan, m *mem.Memory) {
				pushed(t, m, set, class, p.Heap)
				popped(t, m, set, class, 1)
			}, func(l *look) int { l.none(set, class); return 0 }},
			{"a cell is pushed, and popped, and a block is given", func(p api.Plan, m *mem.Memory) {
				pushed(t, m, set, class, p.Heap)
				popped(t, m, set, class, 1)
				given(t, p, m, 2)
			}, func(l *look) int { l.step(watch.Load(at), false); return l.take(class, set, true) }},
			{"a cell is pushed, and a block is given", func(p api.Plan, m *mem.Memory) {
				pushed(t, m, set, class, p.Heap)
				given(t, p, m, 2)
			}, func(l *look) int { return l.pop(at, true) }},
			{"the version alone is another", func(p api.Plan, m *mem.Memory) {
				m.Store(at, watch.Top(0, 1))
			}, func(l *look) int { l.none(set, class); return 0 }},
			{"bits above the version are others", func(p api.Plan, m *mem.Memory) {
				m.Store(at, beyond)
			}, func(l *look) int { l.none(set, class); return 0 }},
		} {
			t.Run(fmt.Sprintf("set %d, class %d: %s", set, class, x.name), func(t *testing.T) {
				p, m := watch.Made(t, 1, 3, 0)
				l := lookAt(t, p, m, NewReserve(p, class, set))
				l.step(watch.Load(at), false)
				l.step(watch.Load(api.AtBlocks), false)
				x.other(p, m)
				l.want = watch.Words(m)
				l.step(watch.Load(at), false)
				l.end(x.then(l))
			})
		}
	})
}

// P10.1: the list is changed ahead of the Take: who took the last block laid its cells there, and one of them is told.
func TestReserveBehindLastBlock(t *testing.T) {
	eachList(func(set, class int) {
		at := watch.HeadOf(set, class)
		for steps := 1; steps <= 3; steps++ {
			p, m := watch.Made(t, 1, 2, 0, 1)
			x := NewReserve(p, class, set)
			for range steps {
				x.Step(m)
			}
			cells := watch.CellsOf(p, 1, class)
			if c := reserve(t, p, m, class, set); c != cells[0] {
				t.Errorf("the other one is told %d", c)
			}
			l := lookAt(t, p, m, x)
			if steps == 2 {
				l.step(watch.Load(p.Table+1), false)
			}
			if steps >= 2 {
				l.step(watch.CAS(api.AtBlocks, false), false)
			}
			l.step(watch.Load(api.AtBlocks), false)
			l.step(watch.Load(at), false)
			l.pop(at, true)
			l.end(cells[1])
		}
	})
}

// P10.1: a block that is given ahead of the Take is taken, though the Pop found none ahead of it; one that is given behind the Take's step is not, if the list is as it was.
func TestReserveAndGive(t *testing.T) {
	eachList(func(set, class int) {
		at := watch.HeadOf(set, class)
		p, m := watch.Made(t, 1, 2, 0)
		x := NewReserve(p, class, set)
		x.Step(m)
		given(t, p, m, 1)
		l := lookAt(t, p, m, x)
		l.end(l.take(class, set, true))

		p, m = watch.Made(t, 1, 2, 0)
		x = NewReserve(p, class, set)
		x.Step(m)
		x.Step(m)
		given(t, p, m, 1)
		l = lookAt(t, p, m, x)
		l.step(watch.Load(at), true)
		l.end(0)
		watch.CheckFree(t, p, m, 1)
	})
}

// P10.1: a cell that is pushed ahead of the Take is not told, if a block is free: it is behind those of the block then.
func TestReserveTakesThoughCellIsPushed(t *testing.T) {
	p, m := watch.Made(t, 1, 2, 0, 1)
	x := NewReserve(p, 2, 0)
	x.Step(m)
	pushed(t, m, 0, 2, p.Heap)
	l := lookAt(t, p, m, x)
	l.take(2, 0, true)
	l.end(p.Heap + 32)
	watch.CheckListed(t, m, 0, 2, p.Heap+48, p.Heap)
}

// P10.1: what was seen is the word of the Pop that found none last: neither an earlier one's, nor the word that was read once more.
func TestReserveKeepsWhatThePopSaw(t *testing.T) {
	at := watch.HeadOf(1, 1)
	for _, x := range []struct {
		words [6]int // the list's version at each of the steps 1 and 3
		ends  int    // how many of these there are till it is done
	}{
		{[6]int{0, 0, 9, 9, 9, 9}, 2},
		{[6]int{3, 3, 9, 9, 9, 9}, 2},
		{[6]int{0, 1, 1, 1, 9, 9}, 4},
		{[6]int{0, 1, 2, 2, 9, 9}, 4},
		{[6]int{0, 1, 0, 0, 9, 9}, 4},
		{[6]int{0, 1, 2, 1, 4, 4}, 6},
		{[6]int{0, 1, 2, 0, 4, 4}, 6},
		{[6]int{0, 1, 2, 0, 1, 1}, 6},
		{[6]int{0, 1, 0, 1, 0, 0}, 6},
		{[6]int{0, 1, 1, 0, 0, 0}, 6},
	} {
		p, m := watch.Made(t, 1, 2, 0)
		r := NewReserve(p, 1, 1)
		for k, version := range x.words[:x.ends] {
			m.Store(at, watch.Top(0, version))
			l := lookAt(t, p, m, r)
			l.step(watch.Load(at), k+1 == x.ends)
			if k%2 == 0 {
				l.step(watch.Load(api.AtBlocks), false)
			}
		}
		lookAt(t, p, m, r).end(0)
	}
}

// P10.1: so it goes on, as often as the list is another one.
func TestReserveAnewManyTimes(t *testing.T) {
	for _, rounds := range []int{1, 2, 3, 50} {
		p, m := watch.Made(t, 1, 2, 0)
		at := watch.HeadOf(0, 2)
		x := NewReserve(p, 2, 0)
		for k := range rounds {
			l := lookAt(t, p, m, x)
			l.step(watch.Load(at), false)
			l.step(watch.Load(api.AtBlocks), false)
			m.Store(at, watch.Top(0, k+1))
			l.want = watch.Words(m)
			l.step(watch.Load(at), false)
		}
		if rounds%2 == 0 {
			given(t, p, m, 1)
			l := lookAt(t, p, m, x)
			l.step(watch.Load(at), false)
			l.end(l.take(2, 0, true))
			continue
		}
		l := lookAt(t, p, m, x)
		l.none(0, 2)
		l.end(0)
	}
}

// P10.1: a Pop whose CAS is false goes on within its own steps; the word that it ends with is what was seen.
func TestReserveWhosePopBeginsAnew(t *testing.T) {
	eachList(func(set, class int) {
		at := watch.HeadOf(set, class)
		p, m := watch.Made(t, 1, 2, 0)
		pushed(t, m, set, class, p.Heap)
		x := NewReserve(p, class, set)
		x.Step(m)
		x.Step(m)
		popped(t, m, set, class, 1)
		l := lookAt(t, p, m, x)
		l.step(watch.CAS(at, false), false)
		l.none(set, class)
		l.end(0)

		pushed(t, m, set, class, p.Heap)
		x = NewReserve(p, class, set)
		x.Step(m)
		x.Step(m)
		pushed(t, m, set, class, p.Heap+16)
		l = lookAt(t, p, m, x)
		l.step(watch.CAS(at, false), false)
		l.pop(at, true)
		l.end(p.Heap + 16)
	})
}

// P10.2: an Alloc of each count, mark and set, of a cell that is on the list: each field's word is 0 behind its own step, rising, the header is stored last, and no other word changes.
func TestAllocFromList(t *testing.T) {
	for count := range 8 {
		for mark := range 2 {
			for set := range 2 {
				class := classOf(count)
				p, m := watch.Made(t, 1, 3, 0, 2)
				others(t, p, m, 1, set, class)
				cells := watch.CellsOf(p, 0, class)
				pushed(t, m, set, class, cells[2], cells[1])
				n := m.Count()
				l := lookAt(t, p, m, NewAlloc(p, count, mark, set))
				if c := l.pop(watch.HeadOf(set, class), false); c != cells[1] {
					t.Fatalf("the cell %d was first", c)
				}
				l.object(cells[1], class, count, mark)
				l.end(cells[1])
				if got := m.Count() - n; got != 4+count {
					t.Errorf("%d fields: %d steps", count, got)
				}
				watch.CheckListed(t, m, set, class, cells[2])
			}
		}
	}
}

// P10.2: so it is with a cell of a new block, of a block's first cell as of each other one.
func TestAllocOfBlock(t *testing.T) {
	for count := range 8 {
		for mark := range 2 {
			for set := range 2 {
				class := classOf(count)
				p, m := watch.Made(t, 2, 3, 6, 2, 0)
				others(t, p, m, 1, set, class)
				at := watch.HeadOf(set, class)
				n := m.Count()
				l := lookAt(t, p, m, NewAlloc(p, count, mark, set))
				l.step(watch.Load(at), false)
				cell := l.take(class, set, false)
				l.object(cell, class, count, mark)
				l.end(p.Heap + 64)
				if got, want := m.Count()-n, []int{16, 12}[class]+count; got != want {
					t.Errorf("%d fields: %d steps, want %d", count, got, want)
				}
				for _, c := range watch.CellsOf(p, 2, class)[1:] {
					l := lookAt(t, p, m, NewAlloc(p, count, mark, set))
					l.pop(at, false)
					l.object(c, class, count, mark)
					l.end(c)
				}
				watch.CheckFree(t, p, m, 0)
			}
		}
	}
}

// P10.2: whatever the cell had, the header has the count, the class and the mark alone, and fields are 0; words behind the fields stay.
func TestAllocOverOldWords(t *testing.T) {
	for _, old := range []uint64{0, 1, watch.Junk, watch.Object(2, 7, 1), watch.Free(1, 4095)} {
		for count := range 8 {
			class := classOf(count)
			p, m := watch.Made(t, 1, 1, 0)
			for a := p.Heap; a < p.Size; a++ {
				m.Store(a, old)
			}
			pushed(t, m, 1, class, p.Heap+8)
			m.Store(p.Heap+8, old&^(0xfff<<12)) // the Link is 0, the rest as it may be
			l := lookAt(t, p, m, NewAlloc(p, count, 1, 1))
			l.pop(watch.HeadOf(1, class), false)
			l.object(p.Heap+8, class, count, 1)
			l.end(p.Heap + 8)
		}
	}
}

// P10.2: an Alloc that finds none ends with its Reserve: no cell, and no word stored. Cells of the other class, of the class of wide objects and of the other set are no help.
func TestAllocOfNone(t *testing.T) {
	for count := range 8 {
		for mark := range 2 {
			for set := range 2 {
				class := classOf(count)
				p, m := watch.Made(t, 1, 2, 0)
				others(t, p, m, 1, set, class)
				l := lookAt(t, p, m, NewAlloc(p, count, mark, set))
				l.none(set, class)
				l.end(0)
			}
		}
	}
}

// P10.2: its Reserve begins anew, if the list is another one.
func TestAllocAnew(t *testing.T) {
	for count := range 8 {
		class := classOf(count)
		at := watch.HeadOf(0, class)
		p, m := watch.Made(t, 1, 2, 0)
		x := NewAlloc(p, count, 1, 0)
		x.Step(m)
		x.Step(m)
		pushed(t, m, 0, class, p.Heap+8)
		l := lookAt(t, p, m, x)
		l.step(watch.Load(at), false)
		l.pop(at, false)
		l.object(p.Heap+8, class, count, 1)
		l.end(p.Heap + 8)
	}
}

// P10.2: behind the steps of its Reserve an Alloc has its cell, whatever others do with lists and blocks.
func TestAllocIsNotHeldUp(t *testing.T) {
	for steps := 3; steps < 9; steps++ {
		p, m := watch.Made(t, 1, 4, 0, 3)
		pushed(t, m, 0, 1, p.Heap)
		x := NewAlloc(p, 5, 0, 0)
		for range steps {
			x.Step(m)
		}
		pushed(t, m, 0, 1, p.Heap+8, p.Heap+16)
		popped(t, m, 0, 1, 1)
		given(t, p, m, 2)
		reserve(t, p, m, 0, 1)
		reserve(t, p, m, 1, 0)
		l := lookAt(t, p, m, x)
		for f := steps - 2; f <= 5; f++ {
			l.want[p.Heap+f] = 0
			l.step(watch.Store(p.Heap+f), false)
		}
		l.want[p.Heap] = watch.Object(1, 5, 0)
		l.step(watch.Store(p.Heap), true)
		l.end(p.Heap)
	}
}

// P10.1 to P10.3: all cells of a plan are told, each once, and then none is; no step is a trap.
func TestAllCells(t *testing.T) {
	for _, n := range []int{1, 2, 5, 64} {
		eachList(func(set, class int) {
			p, m := watch.Made(t, n, n, 0)
			for b := range n {
				given(t, p, m, b)
			}
			var got, want []int
			for b := range n {
				cells := watch.CellsOf(p, b, class)
				want = append(want, cells...)
				for k := range cells {
					x := teller(NewReserve(p, class, set))
					if count := []int{3, 7, 0}[class]; class < 2 && k%2 == 1 {
						x = NewAlloc(p, count, k%4/2, set)
					}
					watch.Run(t, x, m)
					got = append(got, x.Cell())
				}
			}
			slices.Sort(got)
			if !slices.Equal(got, want) {
				t.Errorf("%d blocks: the cells %d are told", n, got)
			}
			for range 3 {
				if c := reserve(t, p, m, class, set); c != 0 {
					t.Errorf("the cell %d is told once more", c)
				}
			}
			if m.Traps() != 0 {
				t.Errorf("%d traps", m.Traps())
			}
		})
	}
}

// P10.2: objects of all counts stand side by side; none has words of another.
func TestObjectsSideBySide(t *testing.T) {
	p, m := watch.Made(t, 3, 6, 0, 5, 1, 0, 4, 2)
	want := map[int][]uint64{}
	for k := range 24 {
		count, mark, set := k*5%8, k%2, k/8%2
		x := NewAlloc(p, count, mark, set)
		watch.Run(t, x, m)
		words := make([]uint64, count+1)
		words[0] = watch.Object(classOf(count), count, mark)
		if x.Cell() == 0 {
			t.Fatalf("there is no cell for the object %d", k)
		}
		for f := range count {
			words[f+1] = uint64(100*k + f)
			m.Store(x.Cell()+f+1, words[f+1])
		}
		want[x.Cell()] = words
	}
	if len(want) != 24 {
		t.Errorf("%d cells were told", len(want))
	}
	all := watch.Words(m)
	for c, words := range want {
		if !slices.Equal(all[c:c+len(words)], words) {
			t.Errorf("the object at %d is %d, want %d", c, all[c:c+len(words)], words)
		}
	}
}

// P10.1, P10.2: the chapter's examples.
func TestExamples(t *testing.T) {
	p, m := watch.Made(t, 1, 1, 0, 0)
	if p.Heap != 32 {
		t.Fatalf("the plan is %+v", p)
	}
	x := NewAlloc(p, 3, 1, 0)
	watch.Run(t, x, m)
	checkCell(t, x, 32)
	if l := watch.Words(m)[32:36]; !slices.Equal(l, []uint64{177, 0, 0, 0}) {
		t.Errorf("the words 32 to 35 are %d", l)
	}
	y := NewReserve(p, 1, 0)
	watch.Run(t, y, m)
	checkCell(t, y, 0)
}

// R6: a new machine does no access; what it does hangs on its steps' moments, and what it tells does not change any more.
func TestMachinesAreOfTheirSteps(t *testing.T) {
	p, m := watch.Made(t, 1, 3, 0)
	n := m.Count()
	x, y, z := NewReserve(p, 1, 0), NewAlloc(p, 7, 1, 0), NewReserve(p, 2, 1)
	if m.Count() != n {
		t.Errorf("%d accesses of new machines", m.Count()-n)
	}
	given(t, p, m, 1)
	pushed(t, m, 1, 2, p.Heap)
	for _, k := range []teller{x, y, z} {
		watch.Run(t, k, m)
	}
	popped(t, m, 0, 1, 2)
	pushed(t, m, 0, 1, x.Cell(), y.Cell())
	given(t, p, m, 2)
	for k, want := range map[teller]int{x: p.Heap + 32, y: p.Heap + 40, z: p.Heap} {
		checkCell(t, k, want)
		watch.CheckDone(t, k, m)
		checkCell(t, k, want)
	}
}

// R6: a copy of a machine goes its own way, at each step of it.
func TestCopiesGoTheirOwnWay(t *testing.T) {
	for steps := range 18 { // of 18 steps
		p, m := watch.Made(t, 1, 3, 0, 1, 2)
		x := NewAlloc(p, 6, 1, 1)
		for range steps {
			x.Step(m)
		}
		y, n := *x, m.Clone()
		if more := watch.Run(t, x, m); more != 18-steps {
			t.Errorf("the machine takes %d more steps", more)
		}
		checkCell(t, &y, 0)
		if more := watch.Run(t, &y, n); more != 18-steps {
			t.Errorf("the copy takes %d more steps", more)
		}
		checkCell(t, x, p.Heap+32)
		checkCell(t, &y, p.Heap+32)
		watch.CheckWords(t, n, watch.Words(m))
	}
	for steps := range 9 {
		p, m := watch.Made(t, 1, 3, 0, 1, 2)
		x := NewReserve(p, 2, 0)
		for range steps {
			x.Step(m)
		}
		y, n := *x, m.Clone()
		watch.Run(t, x, m)
		checkCell(t, &y, 0)
		if more := watch.Run(t, &y, n); more != 9-steps {
			t.Errorf("the copy takes %d more steps", more)
		}
		checkCell(t, &y, p.Heap+32)
		watch.CheckWords(t, n, watch.Words(m))
	}
}

// P10.2: of a mark its lowest bit stands in the header.
func TestAllocOfOtherMarks(t *testing.T) {
	for _, n := range edges.Numbers() {
		p, m := watch.Made(t, 1, 1, 0, 0)
		x := NewAlloc(p, 2, n, 0)
		watch.Run(t, x, m)
		checkCell(t, x, p.Heap)
		watch.CheckWord(t, m, p.Heap, watch.Object(0, 2, int(edges.Modulo(n, 1))))
	}
}

// R1: whatever it is given, a machine's steps are one access each, till it is done, and none panics.
func TestWrongNumbers(t *testing.T) {
	p, m := watch.Made(t, 1, 2, 0, 0, 1)
	for _, n := range edges.Numbers() {
		lost := api.Plan{Threads: n, Blocks: n, Table: n, Heap: n, Size: n}
		for _, x := range []teller{
			NewReserve(p, n, 0), NewReserve(p, 0, n), NewReserve(p, n, n),
			NewReserve(lost, 1, 1), NewReserve(lost, n, n), NewReserve(api.Plan{}, 1, 0),
			NewAlloc(p, n, 0, 0), NewAlloc(p, n, 1, 1), NewAlloc(p, 3, n, 0), NewAlloc(p, 3, 0, n),
			NewAlloc(lost, 3, 1, 0), NewAlloc(lost, n, n, n), NewAlloc(api.Plan{}, 5, 0, 0),
		} {
			m := m.Clone()
			for range 60 {
				count := m.Count()
				done := x.Step(m)
				if m.Count() != count+1 {
					t.Fatalf("%d: %d accesses of one step", n, m.Count()-count)
				}
				if done {
					watch.CheckDone(t, x, m)
					break
				}
				checkCell(t, x, 0)
			}
		}
	}
}

// R1: of a memory that has neither lists nor blocks each Load is a trap that answers 0: there is none.
func TestMemoryThatIsShort(t *testing.T) {
	p, e := plan.New(1, 1)
	if e != api.OK {
		t.Fatalf("plan.New: error %d", e)
	}
	for _, x := range []teller{NewReserve(p, 0, 0), NewAlloc(p, 3, 1, 1)} {
		m, e := mem.New(2)
		if e != api.OK {
			t.Fatalf("mem.New: error %d", e)
		}
		if n := watch.Run(t, x, m); n != 3 || m.Count() != 3 || m.Traps() != 3 {
			t.Errorf("%d steps, %d accesses, %d traps", n, m.Count(), m.Traps())
		}
		checkCell(t, x, 0)
		watch.CheckDone(t, x, m)
	}
}

// R1: machines that nobody made are done, with none.
func TestMadeByNobody(t *testing.T) {
	_, m := watch.Made(t, 1, 1, 0, 0)
	for _, x := range []teller{&Reserve{}, &Alloc{}} {
		watch.CheckDone(t, x, m)
		checkCell(t, x, 0)
	}
}
