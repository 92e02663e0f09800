package list

import (
	"math"
	"slices"
	"testing"

	"flit/api"
	"flit/edges"
	"flit/head"
	"flit/mem"
	"flit/stamp"
)

// at is where the head of the lists of these tests stands.
const at = 3

// machine is a Pop or a Push.
type machine interface {
	Step(m *mem.Memory) bool
}

// top is a head as a word, reckoned here.
func top(first, version int) uint64 { return uint64(first) + uint64(version)<<12 }

// free is the header of a free cell as a word, reckoned here.
func free(class, link int) uint64 { return uint64(class)<<2 + uint64(link)<<12 }

// made is a memory with a list of these cells, of class 1, whose head has that version.
func made(t *testing.T, version int, cells ...int) *mem.Memory {
	t.Helper()
	m, e := mem.New(160)
	if e != api.OK {
		t.Fatalf("mem.New: error %d", e)
	}
	first := 0
	for _, c := range slices.Backward(cells) {
		m.Store(c, free(1, first))
		first = c
	}
	m.Store(at, top(first, version))
	m.Take()
	return m
}

// words are those of m, asked of a clone, so that m does not count it.
func words(m *mem.Memory) []uint64 {
	c := m.Clone()
	l := make([]uint64, c.Len())
	for a := range l {
		l[a] = c.Load(a)
	}
	return l
}

// word is one of m, asked likewise.
func word(m *mem.Memory, a int) uint64 { return m.Clone().Load(a) }

// cells are those on the list, first to last, at most as many as there are words.
func cells(m *mem.Memory) []int {
	m = m.Clone()
	l := []int{}
	for c := int(m.Load(at) % 4096); c != 0 && len(l) < m.Len(); c = int(m.Load(c) >> 12 % 4096) {
		l = append(l, c)
	}
	return l
}

func checkCells(t *testing.T, m *mem.Memory, want ...int) {
	t.Helper()
	if got := cells(m); !slices.Equal(got, want) {
		t.Errorf("the list has %d, want %d", got, want)
	}
}

func checkWord(t *testing.T, m *mem.Memory, a int, want uint64) {
	t.Helper()
	if got := word(m, a); got != want {
		t.Errorf("the word %d is %#x, want %#x", a, got, want)
	}
}

// step does one Step, which must tell done, and do this access alone.
func step(t *testing.T, x machine, m *mem.Memory, want api.Access, done bool) {
	t.Helper()
	n, traps := m.Count(), m.Traps()
	m.Take()
	if got := x.Step(m); got != done {
		t.Errorf("Step tells %t, want %t", got, done)
	}
	if m.Count() != n+1 || m.Traps() != traps {
		t.Errorf("Step: %d accesses, %d traps", m.Count()-n, m.Traps()-traps)
	}
	if got := m.Take(); !slices.Equal(got, []api.Access{want}) {
		t.Errorf("Step: accesses %v, want %v", got, want)
	}
}

func load(a int) api.Access           { return api.Access{Op: 1, At: a, OK: true} }
func store(a int) api.Access          { return api.Access{Op: 2, At: a, OK: true} }
func cas(a int, done bool) api.Access { return api.Access{Op: 3, At: a, OK: done} }

func checkResult(t *testing.T, x *Pop, cell int, seen uint64) {
	t.Helper()
	if c, w := x.Result(); c != cell || w != seen {
		t.Errorf("Result is %d, %#x; want %d, %#x", c, w, cell, seen)
	}
}

// checkDone steps on: a machine that is done does nothing, and tells true.
func checkDone(t *testing.T, x machine, m *mem.Memory) {
	t.Helper()
	n, before := m.Count(), words(m)
	for range 5 {
		if !x.Step(m) {
			t.Error("Step of a machine that is done tells false")
		}
	}
	if m.Count() != n || !slices.Equal(words(m), before) {
		t.Error("Step of a machine that is done does something")
	}
}

// run does a machine's steps till it is done: how many it took.
func run(t *testing.T, x machine, m *mem.Memory) int {
	t.Helper()
	for n := 1; n <= 99; n++ {
		if x.Step(m) {
			return n
		}
	}
	t.Fatal("the machine does not end")
	return 0
}

// pop takes a cell by a machine of its own.
func pop(t *testing.T, m *mem.Memory) int {
	t.Helper()
	x := NewPop(at)
	run(t, x, m)
	c, _ := x.Result()
	return c
}

// push lays a row of one class down by a machine of its own.
func push(t *testing.T, m *mem.Memory, first, last int) {
	t.Helper()
	run(t, NewPush(at, first, last, 1), m)
}

// P8.1: of an empty list the first step is the last one; the head that was seen is told, whatever its version.
func TestPopOfNone(t *testing.T) {
	for _, version := range []int{0, 1, 77, 1<<40 - 1} {
		m := made(t, version)
		before := words(m)
		x := NewPop(at)
		checkResult(t, x, 0, 0)
		step(t, x, m, load(at), true)
		checkResult(t, x, 0, top(0, version))
		checkDone(t, x, m)
		checkResult(t, x, 0, top(0, version))
		if !slices.Equal(words(m), before) {
			t.Error("a Pop of an empty list changes words")
		}
	}
}

// P8.1: of one cell, of several, and with versions that go round.
func TestPop(t *testing.T) {
	for _, x := range []struct {
		version, next int
		cells         []int
	}{
		{0, 1, []int{96}},
		{5, 6, []int{96}},
		{2, 3, []int{96, 100}},
		{2, 3, []int{100, 96}},
		{7, 8, []int{32, 159, 1, 96, 100, 4}},
		{1<<40 - 1, 0, []int{96, 100}},
		{1<<40 - 2, 1<<40 - 1, []int{159}},
	} {
		m := made(t, x.version, x.cells...)
		want := words(m)
		first, rest := x.cells[0], x.cells[1:]
		p := NewPop(at)
		step(t, p, m, load(at), false)
		checkResult(t, p, 0, 0)
		step(t, p, m, load(first), false)
		checkResult(t, p, 0, 0)
		checkCells(t, m, x.cells...)
		step(t, p, m, cas(at, true), true)
		checkResult(t, p, first, top(first, x.version))
		checkCells(t, m, rest...)
		checkDone(t, p, m)
		checkResult(t, p, first, top(first, x.version))
		after := 0
		if len(rest) > 0 {
			after = rest[0]
		}
		want[at] = top(after, x.next)
		if !slices.Equal(words(m), want) {
			t.Errorf("%d: words other than the head change, or the head is not as it must be: %#x", x.cells, word(m, at))
		}
	}
}

// P8.1: the first step reckons with nothing of NewPop's moment; what is told is of the machine's own end, not of what comes later.
func TestPopIsOfItsSteps(t *testing.T) {
	m := made(t, 0)
	x := NewPop(at)
	push(t, m, 100, 100)
	push(t, m, 96, 96)
	if n := run(t, x, m); n != 3 {
		t.Errorf("%d steps", n)
	}
	if c := pop(t, m); c != 100 {
		t.Errorf("the next cell is %d", c)
	}
	push(t, m, 96, 96)
	checkResult(t, x, 96, top(96, 2))
	checkDone(t, x, m)
	checkResult(t, x, 96, top(96, 2))
}

// P8.1: cells are told in the list's order, then none, with the head as it is then.
func TestPopAll(t *testing.T) {
	l := []int{96, 100, 32, 64, 8}
	m := made(t, 0, l...)
	for _, c := range l {
		if got := pop(t, m); got != c {
			t.Errorf("the cell %d is told, want %d", got, c)
		}
	}
	x := NewPop(at)
	run(t, x, m)
	checkResult(t, x, 0, top(0, len(l)))
}

// P8.1: bits of the head beyond a Top's are held against it too, and told; of the cell's header, whatever else it has, the Link counts alone.
func TestPopOfOtherBits(t *testing.T) {
	const beyond uint64 = 0xfff << 52
	m := made(t, 4, 96, 100)
	m.Store(at, top(96, 4)|beyond)
	m.Store(96, math.MaxUint64&^(0xfff<<12)|100<<12)
	x := NewPop(at)
	if n := run(t, x, m); n != 3 {
		t.Errorf("%d steps", n)
	}
	checkResult(t, x, 96, top(96, 4)|beyond)
	checkWord(t, m, at, top(100, 5))
	m.Store(at, beyond)
	y := NewPop(at)
	step(t, y, m, load(at), true)
	checkResult(t, y, 0, beyond)
	m.Store(at, top(100, 5))
	z := NewPop(at)
	z.Step(m)
	z.Step(m)
	m.Store(at, top(100, 5)|1<<63)
	step(t, z, m, cas(at, false), false)
}

// P8.1, P8.2: lists of other heads are others.
func TestHeads(t *testing.T) {
	m := made(t, 0, 96)
	run(t, NewPush(8, 64, 64, 2), m)
	checkCells(t, m, 96)
	checkWord(t, m, 8, top(64, 1))
	x := NewPop(8)
	run(t, x, m)
	checkResult(t, x, 64, top(64, 1))
	checkCells(t, m, 96)
	checkWord(t, m, 8, top(0, 2))
	y := NewPop(0)
	step(t, y, m, load(0), true)
}

// P8.2: one cell, onto an empty list and onto one that is not. Whatever the cell had, its header has the class and the link alone.
func TestPush(t *testing.T) {
	for _, old := range []uint64{0, math.MaxUint64, free(3, 77), 21681} {
		for class := range 4 {
			for _, on := range [][]int{nil, {100}, {100, 64}} {
				m := made(t, 6, on...)
				m.Store(96, old)
				want := words(m)
				first := 0
				if len(on) > 0 {
					first = on[0]
				}
				x := NewPush(at, 96, 96, class)
				step(t, x, m, load(at), false)
				step(t, x, m, store(96), false)
				checkWord(t, m, 96, free(class, first))
				checkWord(t, m, at, top(first, 6))
				step(t, x, m, cas(at, true), true)
				checkCells(t, m, append([]int{96}, on...)...)
				checkDone(t, x, m)
				want[96], want[at] = free(class, first), top(96, 7)
				if !slices.Equal(words(m), want) {
					t.Errorf("class %d onto %d: other words change", class, on)
				}
				if h := head.Of(word(m, 96)); h != (api.Head{State: api.CellFree, Class: class, Link: first}) {
					t.Errorf("the header is %+v", h)
				}
			}
		}
	}
}

// P8.2: of a row the last cell's header is written, and no other's; it takes three steps, however long it is.
func TestPushOfRow(t *testing.T) {
	for _, on := range [][]int{nil, {100}, {100, 64, 68}} {
		for _, row := range [][]int{{32, 36}, {36, 32}, {32, 40, 36}, {4, 8, 12, 16, 20, 24, 28}} {
			m := made(t, 0, on...)
			last := row[len(row)-1]
			for i, c := range row[:len(row)-1] {
				m.Store(c, uint64(row[i+1])<<12|0xfff|1<<40)
			}
			m.Store(last, math.MaxUint64)
			want := words(m)
			x := NewPush(at, row[0], last, 2)
			step(t, x, m, load(at), false)
			step(t, x, m, store(last), false)
			checkCells(t, m, on...)
			step(t, x, m, cas(at, true), true)
			checkCells(t, m, slices.Concat(row, on)...)
			checkDone(t, x, m)
			want[at] = top(row[0], 1)
			want[last] = free(2, 0)
			if len(on) > 0 {
				want[last] = free(2, on[0])
			}
			if !slices.Equal(words(m), want) {
				t.Errorf("%d onto %d: other words change", row, on)
			}
			for _, c := range slices.Concat(row, on) {
				if got := pop(t, m); got != c {
					t.Errorf("%d onto %d: the cell %d is told, want %d", row, on, got, c)
				}
			}
		}
	}
}

// P8.2: a version goes round; what is above a Top in the head is not taken over.
func TestPushVersion(t *testing.T) {
	m := made(t, 1<<40-1, 100)
	push(t, m, 96, 96)
	checkWord(t, m, at, top(96, 0))
	m.Store(at, top(96, 0)|1<<63|1<<52)
	if n := run(t, NewPush(at, 64, 64, 1), m); n != 3 {
		t.Errorf("%d steps", n)
	}
	checkWord(t, m, at, top(64, 1))
	checkWord(t, m, 64, free(1, 96))
}

// P8.1, P8.2: the chapter's examples.
func TestExamples(t *testing.T) {
	m := made(t, 0, 96, 100)
	x := NewPop(at)
	if x.Step(m) || x.Step(m) || !x.Step(m) {
		t.Error("a Pop's three steps are not false, false, true")
	}
	checkResult(t, x, 96, top(96, 0))

	m = made(t, 0, 96, 100)
	x = NewPop(at)
	x.Step(m)
	x.Step(m)
	push(t, m, 96, 96)
	step(t, x, m, cas(at, false), false)
	step(t, x, m, load(at), false)
}

// P8.1, P8.3: the cell is first again, but what is behind it is another one: the version tells it, the CAS is false, and the Pop goes on at its step 1.
func TestPopOfCellThatIsBack(t *testing.T) {
	m := made(t, 0, 96, 100, 64)
	x := NewPop(at)
	step(t, x, m, load(at), false)
	step(t, x, m, load(96), false)
	if pop(t, m) != 96 || pop(t, m) != 100 {
		t.Error("the other does not take 96 and 100")
	}
	push(t, m, 96, 96)
	checkCells(t, m, 96, 64)
	step(t, x, m, cas(at, false), false)
	checkCells(t, m, 96, 64)
	checkWord(t, m, at, top(96, 3))
	checkResult(t, x, 0, 0)
	step(t, x, m, load(at), false)
	step(t, x, m, load(96), false)
	step(t, x, m, cas(at, true), true)
	checkResult(t, x, 96, top(96, 3))
	checkCells(t, m, 64)
}

// P8.1, P8.3: so it is if the other stepped in ahead of the second step, and if the list is the same again.
func TestPopOfSameList(t *testing.T) {
	for steps := 1; steps <= 2; steps++ {
		m := made(t, 0, 96, 100)
		x := NewPop(at)
		for range steps {
			x.Step(m)
		}
		pop(t, m)
		push(t, m, 96, 96)
		checkCells(t, m, 96, 100)
		if steps == 1 {
			step(t, x, m, load(96), false)
		}
		step(t, x, m, cas(at, false), false)
		checkResult(t, x, 0, 0)
		if n := run(t, x, m); n != 3 {
			t.Errorf("%d more steps", n)
		}
		checkResult(t, x, 96, top(96, 2))
		checkCells(t, m, 100)
	}
}

// P8.1: a Pop that begins anew may find nothing; the head that it tells is the one of its last step 1.
func TestPopThatFindsNoneAnew(t *testing.T) {
	m := made(t, 9, 96)
	x := NewPop(at)
	x.Step(m)
	x.Step(m)
	pop(t, m)
	step(t, x, m, cas(at, false), false)
	step(t, x, m, load(at), true)
	checkResult(t, x, 0, top(0, 10))
	checkDone(t, x, m)
}

// P8.2, P8.3: a Push whose head is another one, though it names the same cell, or no cell again, begins anew: the last cell's link is written once more.
func TestPushAnew(t *testing.T) {
	for _, x := range []struct {
		name  string
		on    []int
		other func(m *mem.Memory)
		link  int
		want  []int
	}{
		{"the first is popped", []int{100, 64}, func(m *mem.Memory) { pop(t, m) }, 64, []int{96, 64}},
		{"the last is popped", []int{100}, func(m *mem.Memory) { pop(t, m) }, 0, []int{96}},
		{"one is pushed", []int{100}, func(m *mem.Memory) { push(t, m, 32, 32) }, 32, []int{96, 32, 100}},
		{"one is pushed onto none", nil, func(m *mem.Memory) { push(t, m, 32, 32) }, 32, []int{96, 32}},
		{"the first is back", []int{100, 64}, func(m *mem.Memory) { pop(t, m); push(t, m, 100, 100) }, 100, []int{96, 100, 64}},
		{"it is empty again", nil, func(m *mem.Memory) { push(t, m, 32, 32); pop(t, m) }, 0, []int{96}},
	} {
		for steps := 1; steps <= 2; steps++ {
			m := made(t, 0, x.on...)
			p := NewPush(at, 96, 96, 3)
			for range steps {
				p.Step(m)
			}
			x.other(m)
			if steps == 1 {
				step(t, p, m, store(96), false)
			}
			on := cells(m)
			step(t, p, m, cas(at, false), false)
			checkCells(t, m, on...)
			step(t, p, m, load(at), false)
			step(t, p, m, store(96), false)
			checkWord(t, m, 96, free(3, x.link))
			step(t, p, m, cas(at, true), true)
			if got := cells(m); !slices.Equal(got, x.want) {
				t.Errorf("%s, %d steps: the list has %d, want %d", x.name, steps, got, x.want)
			}
			checkDone(t, p, m)
		}
	}
}

// P8.3: an access of another that is no CAS of the head lets a CAS be done.
func TestCASAmongOthersSteps(t *testing.T) {
	m := made(t, 0, 96, 100)
	x, y := NewPop(at), NewPush(at, 64, 64, 0)
	z := NewPop(at)
	for _, p := range []machine{x, y, z, x, y, z} {
		p.Step(m)
	}
	step(t, y, m, cas(at, true), true)
	step(t, x, m, cas(at, false), false)
	step(t, z, m, cas(at, false), false)
	step(t, x, m, load(at), false)
	step(t, z, m, load(at), false)
	step(t, x, m, load(64), false)
	step(t, z, m, load(64), false)
	step(t, z, m, cas(at, true), true)
	checkResult(t, z, 64, top(64, 1))
	checkCells(t, m, 96, 100)
}

// R6: a machine hangs on the memory that each Step is of; a copy goes its own way.
func TestCopiesGoTheirOwnWay(t *testing.T) {
	m := made(t, 0, 96, 100)
	x := NewPop(at)
	x.Step(m)
	y, n := *x, m.Clone()
	run(t, x, m)
	pop(t, n)
	if steps := run(t, &y, n); steps != 5 {
		t.Errorf("the copy takes %d steps", steps)
	}
	checkResult(t, x, 96, top(96, 0))
	checkResult(t, &y, 100, top(100, 1))
	checkCells(t, m, 100)
	checkCells(t, n)

	p := NewPush(at, 96, 96, 1)
	p.Step(m)
	q, n := *p, m.Clone()
	run(t, p, m)
	push(t, n, 64, 64)
	if steps := run(t, &q, n); steps != 5 {
		t.Errorf("the copy takes %d steps", steps)
	}
	checkCells(t, m, 96, 100)
	checkCells(t, n, 96, 64, 100)
}

// P8.1, P8.2: numbers are taken modulo what their bits hold, but addresses as they are.
func TestNumbersModulo(t *testing.T) {
	for _, n := range edges.Numbers() {
		m := made(t, 0, 100)
		if steps := run(t, NewPush(at, n, 96, n), m); steps != 3 {
			t.Errorf("%d steps", steps)
		}
		checkWord(t, m, at, top(int(edges.Modulo(n, 12)), 1))
		checkWord(t, m, 96, free(int(edges.Modulo(n, 2)), 100))
	}
}

// R1: of a head that there is not a Pop finds none, and a Push goes on for ever; each Step ends, is one access, and changes no word of the list.
func TestHeadThatIsNot(t *testing.T) {
	for _, a := range []int{-1, 160, 4096, 1 << 32, math.MaxInt, math.MinInt} {
		m := made(t, 0, 100)
		before, count := words(m), m.Count()
		x := NewPop(a)
		if !x.Step(m) || m.Count() != count+1 || m.Traps() != 1 {
			t.Errorf("a Pop at %d: %d accesses, %d traps", a, m.Count()-count, m.Traps())
		}
		checkResult(t, x, 0, 0)
		p := NewPush(a, 96, 96, 1)
		for k := range 9 {
			if p.Step(m) {
				t.Errorf("a Push at %d is done", a)
			}
			if m.Count() != count+2+k {
				t.Errorf("a Push at %d: %d accesses of %d steps", a, m.Count()-count-1, k+1)
			}
		}
		before[96] = free(1, 0)
		if !slices.Equal(words(m), before) {
			t.Errorf("a head at %d: words change", a)
		}
	}
}

// R1: cells that there are not are traps, and link to none.
func TestCellThatIsNot(t *testing.T) {
	m := made(t, 0, 100)
	m.Store(at, top(4095, 7))
	x := NewPop(at)
	if n := run(t, x, m); n != 3 || m.Traps() != 1 {
		t.Errorf("%d steps, %d traps", n, m.Traps())
	}
	checkResult(t, x, 4095, top(4095, 7))
	checkWord(t, m, at, top(0, 8))
	for _, a := range []int{-1, 160, math.MaxInt, math.MinInt} {
		m := made(t, 0, 100)
		want := words(m)
		if n := run(t, NewPush(at, 96, a, 1), m); n != 3 || m.Traps() != 1 {
			t.Errorf("last %d: %d steps, %d traps", a, n, m.Traps())
		}
		want[at] = stamp.Top(api.Top{At: 96, Ver: 1})
		if !slices.Equal(words(m), want) {
			t.Errorf("last %d: other words change", a)
		}
	}
}

// R1: machines that nobody made are done, with none.
func TestMadeByNobody(t *testing.T) {
	m := made(t, 0, 100)
	checkDone(t, &Pop{}, m)
	checkDone(t, &Push{}, m)
	checkResult(t, &Pop{}, 0, 0)
}
