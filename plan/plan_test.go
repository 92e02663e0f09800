package plan

import (
	"math"
	"testing"

	"flit/api"
	"flit/edges"
)

// made is a plan of so many threads and blocks.
func made(t *testing.T, threads, blocks int) api.Plan {
	t.Helper()
	p, e := New(threads, blocks)
	if e != api.OK {
		t.Fatalf("New(%d, %d): error %d", threads, blocks, e)
	}
	return p
}

// eachPlan does of every plan that there is.
func eachPlan(t *testing.T, do func(p api.Plan)) {
	t.Helper()
	for threads := 1; threads <= 64; threads++ {
		for blocks := 1; blocks <= 64; blocks++ {
			do(made(t, threads, blocks))
		}
	}
}

// P5.1, by the chapter's example and by hand.
func TestNew(t *testing.T) {
	for _, want := range []api.Plan{
		{Threads: 2, Blocks: 4, Table: 12, Heap: 32, Size: 160},
		{Threads: 1, Blocks: 1, Table: 11, Heap: 32, Size: 64},
		{Threads: 64, Blocks: 64, Table: 74, Heap: 160, Size: 2208},
		{Threads: 1, Blocks: 64, Table: 11, Heap: 96, Size: 2144},
		{Threads: 64, Blocks: 1, Table: 74, Heap: 96, Size: 128},
		// Table and blocks are one less than a multiple of 32, one, one more.
		{Threads: 1, Blocks: 20, Table: 11, Heap: 32, Size: 672},
		{Threads: 1, Blocks: 21, Table: 11, Heap: 32, Size: 704},
		{Threads: 1, Blocks: 22, Table: 11, Heap: 64, Size: 768},
		{Threads: 53, Blocks: 1, Table: 63, Heap: 64, Size: 96},
		{Threads: 54, Blocks: 1, Table: 64, Heap: 96, Size: 128},
		{Threads: 64, Blocks: 21, Table: 74, Heap: 96, Size: 768},
		{Threads: 64, Blocks: 22, Table: 74, Heap: 96, Size: 800},
		{Threads: 64, Blocks: 23, Table: 74, Heap: 128, Size: 864},
		{Threads: 64, Blocks: 54, Table: 74, Heap: 128, Size: 1856},
		{Threads: 64, Blocks: 55, Table: 74, Heap: 160, Size: 1920},
		// Table alone is a multiple of 32, so is blocks.
		{Threads: 22, Blocks: 32, Table: 32, Heap: 64, Size: 1088},
		{Threads: 22, Blocks: 64, Table: 32, Heap: 96, Size: 2144},
		{Threads: 54, Blocks: 32, Table: 64, Heap: 96, Size: 1120},
	} {
		if p, e := New(want.Threads, want.Blocks); p != want || e != api.OK {
			t.Errorf("New(%d, %d) = %+v, error %d; want %+v", want.Threads, want.Blocks, p, e, want)
		}
	}
}

// P5.1: each plan is what the chapter says; the Heap is sought from 0 on.
func TestNewOfEach(t *testing.T) {
	for threads := 1; threads <= 64; threads++ {
		for blocks := 1; blocks <= 64; blocks++ {
			table, heap := 10+threads, 0
			for heap < table+blocks {
				heap += 32
			}
			want := api.Plan{Threads: threads, Blocks: blocks, Table: table, Heap: heap, Size: heap + 32*blocks}
			if p, e := New(threads, blocks); p != want || e != api.OK {
				t.Fatalf("New(%d, %d) = %+v, error %d; want %+v", threads, blocks, p, e, want)
			}
		}
	}
}

// P5.1, wrong numbers of threads, of blocks, and of both.
func TestNewWrong(t *testing.T) {
	check := func(threads, blocks int) {
		t.Helper()
		if p, e := New(threads, blocks); p != (api.Plan{}) || e != api.ErrArg {
			t.Errorf("New(%d, %d) = %+v, error %d", threads, blocks, p, e)
		}
	}
	wrong := []int{0, -1, -64, 65, 66, 128, 1 << 32, 1<<32 + 1, math.MaxInt, math.MinInt}
	for _, n := range wrong {
		for _, right := range []int{1, 2, 63, 64} {
			check(n, right)
			check(right, n)
		}
		for _, other := range wrong {
			check(n, other)
		}
	}
}

// wrongClasses are those that there are not.
func wrongClasses() []int {
	l := []int{-1, 3}
	for _, n := range edges.Numbers() {
		if n < 0 || n > 2 {
			l = append(l, n)
		}
	}
	return l
}

// P5.2.
func TestWordsAndCells(t *testing.T) {
	for class, want := range [][2]int{{4, 8}, {8, 4}, {16, 2}} {
		if words, cells := Words(class), Cells(class); words != want[0] || cells != want[1] {
			t.Errorf("class %d: %d words, %d cells; want %d", class, words, cells, want)
		}
	}
	for _, class := range wrongClasses() {
		if words, cells := Words(class), Cells(class); words != 0 || cells != 0 {
			t.Errorf("class %d, which there is not: %d words, %d cells", class, words, cells)
		}
	}
}

// P5.2.
func TestClass(t *testing.T) {
	for count, want := range []int{0, 0, 0, 0, 1, 1, 1, 1} {
		if got := Class(count); got != want {
			t.Errorf("Class(%d) = %d, want %d", count, got, want)
		}
	}
	wrong := []int{-1, 8, 9, 14, 15, 16, 31, 32}
	for _, n := range edges.Numbers() {
		if n < 0 || n > 7 {
			wrong = append(wrong, n)
		}
	}
	for _, count := range wrong {
		if got := Class(count); got != -1 {
			t.Errorf("Class(%d) = %d, want -1", count, got)
		}
	}
}

// P5.2: an object's header and fields are in a cell of its class, and in none of the class below.
func TestObjectsFit(t *testing.T) {
	for count := range api.MaxFields + 1 {
		class := Class(count)
		if 1+count > Words(class) || 1+count <= Words(class-1) {
			t.Errorf("%d fields: class %d, of %d words; that below has %d", count, class, Words(class), Words(class-1))
		}
	}
}

// P5.3, by the chapter's examples.
func TestExamples(t *testing.T) {
	p := made(t, 2, 4)
	if a := Cell(p, 1, 0, 3); a != 76 {
		t.Errorf("Cell(p, 1, 0, 3) = %d, want 76", a)
	}
	if b := Block(p, 76); b != 1 {
		t.Errorf("Block(p, 76) = %d, want 1", b)
	}
	if b := Block(p, 31); b != -1 {
		t.Errorf("Block(p, 31) = %d, want -1", b)
	}
}

// P5.3: the first and the last of each, by hand.
func TestAddresses(t *testing.T) {
	small, p, big := made(t, 1, 1), made(t, 2, 4), made(t, 64, 64)
	for _, x := range []struct {
		name      string
		got, want int
	}{
		{"the small plan's ack", Ack(small, 0), 10},
		{"the first ack", Ack(p, 0), 10},
		{"the last ack", Ack(p, 1), 11},
		{"the big plan's first ack", Ack(big, 0), 10},
		{"the big plan's last ack", Ack(big, 63), 73},
		{"the small plan's entry", Entry(small, 0), 11},
		{"the first entry", Entry(p, 0), 12},
		{"the last entry", Entry(p, 3), 15},
		{"the big plan's first entry", Entry(big, 0), 74},
		{"the big plan's last entry", Entry(big, 63), 137},
		{"the first list of set 0", List(0, 0), 3},
		{"the second list of set 0", List(0, 1), 4},
		{"the last list of set 0", List(0, 2), 5},
		{"the first list of set 1", List(1, 0), 6},
		{"the second list of set 1", List(1, 1), 7},
		{"the last list of set 1", List(1, 2), 8},
		{"the first cell", Cell(p, 0, 0, 0), 32},
		{"the last cell of class 0 of block 0", Cell(p, 0, 0, 7), 60},
		{"the first cell of class 1 of block 1", Cell(p, 1, 1, 0), 64},
		{"the last cell of class 1 of block 1", Cell(p, 1, 1, 3), 88},
		{"the first cell of class 2 of block 3", Cell(p, 3, 2, 0), 128},
		{"the last cell of class 2 of block 3", Cell(p, 3, 2, 1), 144},
		{"the last cell of class 0 of block 3", Cell(p, 3, 0, 7), 156},
		{"the small plan's last cell", Cell(small, 0, 0, 7), 60},
		{"the big plan's first cell", Cell(big, 0, 0, 0), 160},
		{"the big plan's last cell", Cell(big, 63, 0, 7), 2204},
	} {
		if x.got != x.want {
			t.Errorf("%s is at %d, want %d", x.name, x.got, x.want)
		}
	}
}

// P5.3: the addresses below the Heap, the first and the last of a block, the Size and beyond.
func TestBlock(t *testing.T) {
	p, big := made(t, 2, 4), made(t, 64, 64)
	for _, x := range []struct {
		p       api.Plan
		a, want int
	}{
		{p, math.MinInt, -1}, {p, -33, -1}, {p, -1, -1}, {p, 0, -1}, {p, 10, -1}, {p, 12, -1}, {p, 30, -1}, {p, 31, -1},
		{p, 32, 0}, {p, 33, 0}, {p, 63, 0}, {p, 64, 1}, {p, 95, 1}, {p, 96, 2}, {p, 127, 2}, {p, 128, 3}, {p, 159, 3},
		{p, 160, -1}, {p, 161, -1}, {p, 191, -1}, {p, 4096, -1}, {p, 1<<32 + 64, -1}, {p, math.MaxInt, -1},
		{big, 0, -1}, {big, 128, -1}, {big, 159, -1}, {big, 160, 0}, {big, 191, 0}, {big, 192, 1},
		{big, 2175, 62}, {big, 2176, 63}, {big, 2207, 63}, {big, 2208, -1}, {big, 2239, -1},
	} {
		if got := Block(x.p, x.a); got != x.want {
			t.Errorf("%+v: Block(%d) = %d, want %d", x.p, x.a, got, x.want)
		}
	}
}

// P5.3: of each plan, every word of every cell of each class is of the cell's block, and one that is of none of them is of no block.
func TestBlockOfEach(t *testing.T) {
	eachPlan(t, func(p api.Plan) {
		for class := range 3 {
			of := make([]int, p.Size) // the block's number and 1
			for b := range p.Blocks {
				for k := range Cells(class) {
					for w := range Words(class) {
						of[Cell(p, b, class, k)+w] = b + 1
					}
				}
			}
			for a := -40; a < p.Size+40; a++ {
				want := -1
				if a >= 0 && a < p.Size {
					want = of[a] - 1
				}
				if got := Block(p, a); got != want {
					t.Fatalf("%+v, class %d: Block(%d) = %d, want %d", p, class, a, got, want)
				}
			}
		}
	})
}

// named are the words of a plan that stand alone, the lists' heads, the acks and the table's entries, by what they are.
func named(p api.Plan) []word {
	l := []word{{"phase", api.AtPhase}, {"grey", api.AtGrey}, {"blocks", api.AtBlocks}, {"alpha", api.AtAlpha}}
	for set := range 2 {
		for class := range 3 {
			l = append(l, word{"list", List(set, class)})
		}
	}
	for thread := range p.Threads {
		l = append(l, word{"ack", Ack(p, thread)})
	}
	for block := range p.Blocks {
		l = append(l, word{"entry", Entry(p, block)})
	}
	return l
}

type word struct {
	name string
	at   int
}

// cells are the words of a plan's cells, as if all blocks were of a class.
func cells(p api.Plan, class int) []word {
	var l []word
	for block := range p.Blocks {
		for k := range Cells(class) {
			for w := range Words(class) {
				l = append(l, word{"cell", Cell(p, block, class, k) + w})
			}
		}
	}
	return l
}

// P5.4: no two words of a plan are the same one, and all are in its Size; the cells have all from the Heap on.
func TestNoTwoAreTheSame(t *testing.T) {
	eachPlan(t, func(p api.Plan) {
		for class := range 3 {
			inHeap := cells(p, class)
			if len(inHeap) != p.Size-p.Heap {
				t.Fatalf("%+v, class %d: cells have %d words", p, class, len(inHeap))
			}
			met := make([]string, p.Size)
			for _, w := range append(named(p), inHeap...) {
				if w.at < 0 || w.at >= p.Size {
					t.Fatalf("%+v, class %d: %s at %d is not of the plan", p, class, w.name, w.at)
				}
				if met[w.at] != "" {
					t.Fatalf("%+v, class %d: %s and %s both stand at %d", p, class, met[w.at], w.name, w.at)
				}
				met[w.at] = w.name
			}
		}
	})
}

// P5.4: nor are two the same if the blocks of a plan are of different classes, turn by turn.
func TestNoTwoAreTheSameOfAllClasses(t *testing.T) {
	p := made(t, 3, 64)
	for shift := range 3 {
		met := make([]int, p.Size)
		for block := range p.Blocks {
			class := (block + shift) % 3
			for k := range Cells(class) {
				for w := range Words(class) {
					met[Cell(p, block, class, k)+w]++
				}
			}
		}
		for a, n := range met[p.Heap:] {
			if n != 1 {
				t.Fatalf("shift %d: the word %d is of %d cells", shift, p.Heap+a, n)
			}
		}
	}
}

// R1: whatever is given, no call panics.
func TestNothingPanics(t *testing.T) {
	l := edges.Numbers()
	for i, m := range l {
		n := l[(i*7+3)%len(l)]
		for _, p := range []api.Plan{{}, made(t, 64, 64), {Threads: m, Blocks: n, Table: m, Heap: n, Size: m}} {
			for _, a := range []int{0, m, n} {
				New(m, a)
				List(m, a)
				Ack(p, a)
				Entry(p, a)
				Cell(p, m, a, n)
				Cell(p, a, 1, m)
				Block(p, a)
			}
		}
	}
}
