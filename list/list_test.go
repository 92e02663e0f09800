package list

import (
	"math"
	"slices"
	"testing"

	"flit/api"
	"flit/edges"
	"flit/head"
	"flit/mem"
	"flit/stamp"
	"flit/watch"
)

// at is where the head of the lists of these tests stands.
const at = 3

// made is a memory with a list of these cells, of class 1, whose head has that version.
func made(t *testing.T, version int, cells ...int) *mem.Memory {
	t.Helper()
	m, e := mem.New(160)
	if e != api.OK {
		t.Fatalf("mem.New: error %d", e)
	}
	first := 0
	for _, c := range slices.Backward(cells) {
		m.Store(c, watch.Free(1, first))
		first = c
	}
	m.Store(at, watch.Top(first, version))
	m.Take()
	return m
}

// cells are those on the list, first to last, at most as many as there are words.
func cells(m *mem.Memory) []int {
	m = m.Clone()
	l := []int{}
	for c := int(m.Load(at) % 4096); c != 0 && len(l) < m.Len(); c = int(m.Load(c) >> 12 % 4096) {
		l = append(l, c)
	}
	return l
}

func checkCells(t *testing.T, m *mem.Memory, want ...int) {
	t.Helper()
	if got := cells(m); !slices.Equal(got, want) {
		t.Errorf("the list has %d, want %d", got, want)
	}
}

func checkResult(t *testing.T, x *Pop, cell int, seen uint64) {
	t.Helper()
	if c, w := x.Result(); c != cell || w != seen {
		t.Errorf("Result is %d, %#x; want %d, %#x", c, w, cell, seen)
	}
}

// pop takes a cell by a machine of its own.
func pop(t *testing.T, m *mem.Memory) int {
	t.Helper()
	x := NewPop(at)
	watch.Run(t, x, m)
	c, _ := x.Result()
	return c
}

// push lays a row of one class down by a machine of its own.
func push(t *testing.T, m *mem.Memory, first, last int) {
	t.Helper()
	watch.Run(t, NewPush(at, first, last, 1), m)
}

// P8.1: of an empty list the first step is the last one; the head that was seen is told, whatever its version.
func TestPopOfNone(t *testing.T) {
	for _, version := range []int{0, 1, 77, 1<<40 - 1} {
		m := made(t, version)
		before := watch.Words(m)
		x := NewPop(at)
		checkResult(t, x, 0, 0)
		watch.Step(t, x, m, watch.Load(at), true)
		checkResult(t, x, 0, watch.Top(0, version))
		watch.CheckDone(t, x, m)
		checkResult(t, x, 0, watch.Top(0, version))
		if !slices.Equal(watch.Words(m), before) {
			t.Error("a Pop of an empty list changes words")
		}
	}
}

// P8.1: of one cell, of several, and with versions that go round.
func TestPop(t *testing.T) {
	for _, x := range []struct {
		version, next int
		cells         []int
	}{
		{0, 1, []int{96}},
		{5, 6, []int{96}},
		{2, 3, []int{96, 100}},
		{2, 3, []int{100, 96}},
		{7, 8, []int{32, 159, 1, 96, 100, 4}},
		{1<<40 - 1, 0, []int{96, 100}},
		{1<<40 - 2, 1<<40 - 1, []int{159}},
	} {
		m := made(t, x.version, x.cells...)
		want := watch.Words(m)
		first, rest := x.cells[0], x.cells[1:]
		p := NewPop(at)
		watch.Step(t, p, m, watch.Load(at), false)
		checkResult(t, p, 0, 0)
		watch.Step(t, p, m, watch.Load(first), false)
		checkResult(t, p, 0, 0)
		checkCells(t, m, x.cells...)
		watch.Step(t, p, m, watch.CAS(at, true), true)
		checkResult(t, p, first, watch.Top(first, x.version))
		checkCells(t, m, rest...)
		watch.CheckDone(t, p, m)
		checkResult(t, p, first, watch.Top(first, x.version))
		after := 0
		if len(rest) > 0 {
			after = rest[0]
		}
		want[at] = watch.Top(after, x.next)
		if !slices.Equal(watch.Words(m), want) {
			t.Errorf("%d: words other than the head change, or the head is not as it must be: %#x", x.cells, watch.Word(m, at))
		}
	}
}

// P8.1: the first step reckons with nothing of NewPop's moment; what is told is of the machine's own end, not of what comes later.
func TestPopIsOfItsSteps(t *testing.T) {
	m := made(t, 0)
	x := NewPop(at)
	push(t, m, 100, 100)
	push(t, m, 96, 96)
	if n := watch.Run(t, x, m); n != 3 {
		t.Errorf("%d steps", n)
	}
	if c := pop(t, m); c != 100 {
		t.Errorf("the next cell is %d", c)
	}
	push(t, m, 96, 96)
	checkResult(t, x, 96, watch.Top(96, 2))
	watch.CheckDone(t, x, m)
	checkResult(t, x, 96, watch.Top(96, 2))
}

// P8.1: cells are told in the list's order, then none, with the head as it is then.
func TestPopAll(t *testing.T) {
	l := []int{96, 100, 32, 64, 8}
	m := made(t, 0, l...)
	for _, c := range l {
		if got := pop(t, m); got != c {
			t.Errorf("the cell %d is told, want %d", got, c)
		}
	}
	x := NewPop(at)
	watch.Run(t, x, m)
	checkResult(t, x, 0, watch.Top(0, len(l)))
}

// P8.1: bits of the head beyond a Top's are held against it too, and told; of the cell's header, whatever else it has, the Link counts alone.
func TestPopOfOtherBits(t *testing.T) {
	const beyond uint64 = 0xfff << 52
	m := made(t, 4, 96, 100)
	m.Store(at, watch.Top(96, 4)|beyond)
	m.Store(96, math.MaxUint64&^(0xfff<<12)|100<<12)
	x := NewPop(at)
	if n := watch.Run(t, x, m); n != 3 {
		t.Errorf("%d steps", n)
	}
	checkResult(t, x, 96, watch.Top(96, 4)|beyond)
	watch.CheckWord(t, m, at, watch.Top(100, 5))
	m.Store(at, beyond)
	y := NewPop(at)
	watch.Step(t, y, m, watch.Load(at), true)
	checkResult(t, y, 0, beyond)
	m.Store(at, watch.Top(100, 5))
	z := NewPop(at)
	z.Step(m)
	z.Step(m)
	m.Store(at, watch.Top(100, 5)|1<<63)
	watch.Step(t, z, m, watch.CAS(at, false), false)
}

// P8.1, P8.2: lists of other heads are others.
func TestHeads(t *testing.T) {
	m := made(t, 0, 96)
	watch.Run(t, NewPush(8, 64, 64, 2), m)
	checkCells(t, m, 96)
	watch.CheckWord(t, m, 8, watch.Top(64, 1))
	x := NewPop(8)
	watch.Run(t, x, m)
	checkResult(t, x, 64, watch.Top(64, 1))
	checkCells(t, m, 96)
	watch.CheckWord(t, m, 8, watch.Top(0, 2))
	y := NewPop(0)
	watch.Step(t, y, m, watch.Load(0), true)
}

// P8.2: one cell, onto an empty list and onto one that is not. Whatever the cell had, its header has the class and the link alone.
func TestPush(t *testing.T) {
	for _, old := range []uint64{0, math.MaxUint64, watch.Free(3, 77), 21681} {
		for class := range 4 {
			for _, on := range [][]int{nil, {100}, {100, 64}} {
				m := made(t, 6, on...)
				m.Store(96, old)
				want := watch.Words(m)
				first := 0
				if len(on) > 0 {
					first = on[0]
				}
				x := NewPush(at, 96, 96, class)
				watch.Step(t, x, m, watch.Load(at), false)
				watch.Step(t, x, m, watch.Store(96), false)
				watch.CheckWord(t, m, 96, watch.Free(class, first))
				watch.CheckWord(t, m, at, watch.Top(first, 6))
				watch.Step(t, x, m, watch.CAS(at, true), true)
				checkCells(t, m, append([]int{96}, on...)...)
				watch.CheckDone(t, x, m)
				want[96], want[at] = watch.Free(class, first), watch.Top(96, 7)
				if !slices.Equal(watch.Words(m), want) {
					t.Errorf("class %d onto %d: other words change", class, on)
				}
				if h := head.Of(watch.Word(m, 96)); h != (api.Head{State: api.CellFree, Class: class, Link: first}) {
					t.Errorf("the header is %+v", h)
				}
			}
		}
	}
}

// P8.2: of a row the last cell's header is written, and no other's; it takes three steps, however long it is.
func TestPushOfRow(t *testing.T) {
	for _, on := range [][]int{nil, {100}, {100, 64, 68}} {
		for _, row := range [][]int{{32, 36}, {36, 32}, {32, 40, 36}, {4, 8, 12, 16, 20, 24, 28}} {
			m := made(t, 0, on...)
			last := row[len(row)-1]
			for i, c := range row[:len(row)-1] {
				m.Store(c, uint64(row[i+1])<<12|0xfff|1<<40)
			}
			m.Store(last, math.MaxUint64)
			want := watch.Words(m)
			x := NewPush(at, row[0], last, 2)
			watch.Step(t, x, m, watch.Load(at), false)
			watch.Step(t, x, m, watch.Store(last), false)
			checkCells(t, m, on...)
			watch.Step(t, x, m, watch.CAS(at, true), true)
			checkCells(t, m, slices.Concat(row, on)...)
			watch.CheckDone(t, x, m)
			want[at] = watch.Top(row[0], 1)
			want[last] = watch.Free(2, 0)
			if len(on) > 0 {
				want[last] = watch.Free(2, on[0])
			}
			if !slices.Equal(watch.Words(m), want) {
				t.Errorf("%d onto %d: other words change", row, on)
			}
			for _, c := range slices.Concat(row, on) {
				if got := pop(t, m); got != c {
					t.Errorf("%d onto %d: the cell %d is told, want %d", row, on, got, c)
				}
			}
		}
	}
}

// P8.2: a version goes round; what is above a Top in the head is not taken over.
func TestPushVersion(t *testing.T) {
	m := made(t, 1<<40-1, 100)
	push(t, m, 96, 96)
	watch.CheckWord(t, m, at, watch.Top(96, 0))
	m.Store(at, watch.Top(96, 0)|1<<63|1<<52)
	if n := watch.Run(t, NewPush(at, 64, 64, 1), m); n != 3 {
		t.Errorf("%d steps", n)
	}
	watch.CheckWord(t, m, at, watch.Top(64, 1))
	watch.CheckWord(t, m, 64, watch.Free(1, 96))
}

// P8.1, P8.2: the chapter's examples.
func TestExamples(t *testing.T) {
	m := made(t, 0, 96, 100)
	x := NewPop(at)
	if x.Step(m) || x.Step(m) || !x.Step(m) {
		t.Error("a Pop's three steps are not false, false, true")
	}
	checkResult(t, x, 96, watch.Top(96, 0))

	m = made(t, 0, 96, 100)
	x = NewPop(at)
	x.Step(m)
	x.Step(m)
	push(t, m, 96, 96)
	watch.Step(t, x, m, watch.CAS(at, false), false)
	watch.Step(t, x, m, watch.Load(at), false)
}

// P8.1, P8.3: the cell is first again, but what is behind it is another one: the version tells it, the CAS is false, and the Pop goes on at its step 1.
func TestPopOfCellThatIsBack(t *testing.T) {
	m := made(t, 0, 96, 100, 64)
	x := NewPop(at)
	watch.Step(t, x, m, watch.Load(at), false)
	watch.Step(t, x, m, watch.Load(96), false)
	if pop(t, m) != 96 || pop(t, m) != 100 {
		t.Error("the other does not take 96 and 100")
	}
	push(t, m, 96, 96)
	checkCells(t, m, 96, 64)
	watch.Step(t, x, m, watch.CAS(at, false), false)
	checkCells(t, m, 96, 64)
	watch.CheckWord(t, m, at, watch.Top(96, 3))
	checkResult(t, x, 0, 0)
	watch.Step(t, x, m, watch.Load(at), false)
	watch.Step(t, x, m, watch.Load(96), false)
	watch.Step(t, x, m, watch.CAS(at, true), true)
	checkResult(t, x, 96, watch.Top(96, 3))
	checkCells(t, m, 64)
}

// P8.1, P8.3: so it is if the other stepped in ahead of the second step, and if the list is the same again.
func TestPopOfSameList(t *testing.T) {
	for steps := 1; steps <= 2; steps++ {
		m := made(t, 0, 96, 100)
		x := NewPop(at)
		for range steps {
			x.Step(m)
		}
		pop(t, m)
		push(t, m, 96, 96)
		checkCells(t, m, 96, 100)
		if steps == 1 {
			watch.Step(t, x, m, watch.Load(96), false)
		}
		watch.Step(t, x, m, watch.CAS(at, false), false)
		checkResult(t, x, 0, 0)
		if n := watch.Run(t, x, m); n != 3 {
			t.Errorf("%d more steps", n)
		}
		checkResult(t, x, 96, watch.Top(96, 2))
		checkCells(t, m, 100)
	}
}

// P8.1: a Pop that begins anew may find nothing; the head that it tells is the one of its last step 1.
func TestPopThatFindsNoneAnew(t *testing.T) {
	m := made(t, 9, 96)
	x := NewPop(at)
	x.Step(m)
	x.Step(m)
	pop(t, m)
	watch.Step(t, x, m, watch.CAS(at, false), false)
	watch.Step(t, x, m, watch.Load(at), true)
	checkResult(t, x, 0, watch.Top(0, 10))
	watch.CheckDone(t, x, m)
}

// P8.2, P8.3: a Push whose head is another one, though it names the same cell, or no cell again, begins anew: the last cell's link is written once more.
func TestPushAnew(t *testing.T) {
	for _, x := range []struct {
		name  string
		on    []int
		other func(m *mem.Memory)
		link  int
		want  []int
	}{
		{"the first is popped", []int{100, 64}, func(m *mem.Memory) { pop(t, m) }, 64, []int{96, 64}},
		{"the last is popped", []int{100}, func(m *mem.Memory) { pop(t, m) }, 0, []int{96}},
		{"one is pushed", []int{100}, func(m *mem.Memory) { push(t, m, 32, 32) }, 32, []int{96, 32, 100}},
		{"one is pushed onto none", nil, func(m *mem.Memory) { push(t, m, 32, 32) }, 32, []int{96, 32}},
		{"the first is back", []int{100, 64}, func(m *mem.Memory) { pop(t, m); push(t, m, 100, 100) }, 100, []int{96, 100, 64}},
		{"it is empty again", nil, func(m *mem.Memory) { push(t, m, 32, 32); pop(t, m) }, 0, []int{96}},
	} {
		for steps := 1; steps <= 2; steps++ {
			m := made(t, 0, x.on...)
			p := NewPush(at, 96, 96, 3)
			for range steps {
				p.Step(m)
			}
			x.other(m)
			if steps == 1 {
				watch.Step(t, p, m, watch.Store(96), false)
			}
			on := cells(m)
			watch.Step(t, p, m, watch.CAS(at, false), false)
			checkCells(t, m, on...)
			watch.Step(t, p, m, watch.Load(at), false)
			watch.Step(t, p, m, watch.Store(96), false)
			watch.CheckWord(t, m, 96, watch.Free(3, x.link))
			watch.Step(t, p, m, watch.CAS(at, true), true)
			if got := cells(m); !slices.Equal(got, x.want) {
				t.Errorf("%s, %d steps: the list has %d, want %d", x.name, steps, got, x.want)
			}
			watch.CheckDone(t, p, m)
		}
	}
}

// P8.3: an access of another that is no CAS of the head lets a CAS be done.
func TestCASAmongOthersSteps(t *testing.T) {
	m := made(t, 0, 96, 100)
	x, y := NewPop(at), NewPush(at, 64, 64, 0)
	z := NewPop(at)
	for _, p := range []watch.Machine{x, y, z, x, y, z} {
		p.Step(m)
	}
	watch.Step(t, y, m, watch.CAS(at, true), true)
	watch.Step(t, x, m, watch.CAS(at, false), false)
	watch.Step(t, z, m, watch.CAS(at, false), false)
	watch.Step(t, x, m, watch.Load(at), false)
	watch.Step(t, z, m, watch.Load(at), false)
	watch.Step(t, x, m, watch.Load(64), false)
	watch.Step(t, z, m, watch.Load(64), false)
	watch.Step(t, z, m, watch.CAS(at, true), true)
	checkResult(t, z, 64, watch.Top(64, 1))
	checkCells(t, m, 96, 100)
}

// R6: a machine hangs on the memory that each Step is of; a copy goes its own way.
func TestCopiesGoTheirOwnWay(t *testing.T) {
	m := made(t, 0, 96, 100)
	x := NewPop(at)
	x.Step(m)
	y, n := *x, m.Clone()
	watch.Run(t, x, m)
	pop(t, n)
	if steps := watch.Run(t, &y, n); steps != 5 {
		t.Errorf("the copy takes %d steps", steps)
	}
	checkResult(t, x, 96, watch.Top(96, 0))
	checkResult(t, &y, 100, watch.Top(100, 1))
	checkCells(t, m, 100)
	checkCells(t, n)

	p := NewPush(at, 96, 96, 1)
	p.Step(m)
	q, n := *p, m.Clone()
	watch.Run(t, p, m)
	push(t, n, 64, 64)
	if steps := watch.Run(t, &q, n); steps != 5 {
		t.Errorf("the copy takes %d steps", steps)
	}
	checkCells(t, m, 96, 100)
	checkCells(t, n, 96, 64, 100)
}

// P8.1, P8.2: numbers are taken modulo what their bits hold, but addresses as they are.
func TestNumbersModulo(t *testing.T) {
	for _, n := range edges.Numbers() {
		m := made(t, 0, 100)
		if steps := watch.Run(t, NewPush(at, n, 96, n), m); steps != 3 {
			t.Errorf("%d steps", steps)
		}
		watch.CheckWord(t, m, at, watch.Top(int(edges.Modulo(n, 12)), 1))
		watch.CheckWord(t, m, 96, watch.Free(int(edges.Modulo(n, 2)), 100))
	}
}

// R1: of a head that there is not a Pop finds none, and a Push goes on for ever; each Step ends, is one access, and changes no word of the list.
func TestHeadThatIsNot(t *testing.T) {
	for _, a := range []int{-1, 160, 4096, 1 << 32, math.MaxInt, math.MinInt} {
		m := made(t, 0, 100)
		before, count := watch.Words(m), m.Count()
		x := NewPop(a)
		if !x.Step(m) || m.Count() != count+1 || m.Traps() != 1 {
			t.Errorf("a Pop at %d: %d accesses, %d traps", a, m.Count()-count, m.Traps())
		}
		checkResult(t, x, 0, 0)
		p := NewPush(a, 96, 96, 1)
		for k := range 9 {
			if p.Step(m) {
				t.Errorf("a Push at %d is done", a)
			}
			if m.Count() != count+2+k {
				t.Errorf("a Push at %d: %d accesses of %d steps", a, m.Count()-count-1, k+1)
			}
		}
		before[96] = watch.Free(1, 0)
		if !slices.Equal(watch.Words(m), before) {
			t.Errorf("a head at %d: words change", a)
		}
	}
}

// R1: cells that there are not are traps, and link to none.
func TestCellThatIsNot(t *testing.T) {
	m := made(t, 0, 100)
	m.Store(at, watch.Top(4095, 7))
	x := NewPop(at)
	if n := watch.Run(t, x, m); n != 3 || m.Traps() != 1 {
		t.Errorf("%d steps, %d traps", n, m.Traps())
	}
	checkResult(t, x, 4095, watch.Top(4095, 7))
	watch.CheckWord(t, m, at, watch.Top(0, 8))
	for _, a := range []int{-1, 160, math.MaxInt, math.MinInt} {
		m := made(t, 0, 100)
		want := watch.Words(m)
		if n := watch.Run(t, NewPush(at, 96, a, 1), m); n != 3 || m.Traps() != 1 {
			t.Errorf("last %d: %d steps, %d traps", a, n, m.Traps())
		}
		want[at] = stamp.Top(api.Top{At: 96, Ver: 1})
		if !slices.Equal(watch.Words(m), want) {
			t.Errorf("last %d: other words change", a)
		}
	}
}

// R1: machines that nobody made are done, with none.
func TestMadeByNobody(t *testing.T) {
	m := made(t, 0, 100)
	watch.CheckDone(t, &Pop{}, m)
	watch.CheckDone(t, &Push{}, m)
	checkResult(t, &Pop{}, 0, 0)
}
