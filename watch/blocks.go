package watch

import (
	"math"
	"slices"

	"flit/api"
	"flit/mem"
	"flit/plan"
)

// Junk is what the words of blocks have in a memory that Made makes, and all words in one that Full makes, till a machine writes to them.
const Junk uint64 = math.MaxUint64

// Full is a memory of so many words, none of which is nought.
func Full(t Teller, size int) *mem.Memory {
	t.Helper()
	m, e := mem.New(size)
	if e != api.OK {
		t.Fatalf("mem.New: error %d", e)
		return nil
	}
	for a := range size {
		m.Store(a, Junk)
	}
	return m
}

// cellWords is how many words a cell of each class has, said here once more.
var cellWords = [3]int{4, 8, 16}

// Made is a memory of a plan, of whose blocks these are free, the first one first, and the others in use; the head of the free ones has that version, and each list is empty.
func Made(t Teller, threads, blocks, version int, free ...int) (api.Plan, *mem.Memory) {
	t.Helper()
	p, e := plan.New(threads, blocks)
	if e != api.OK {
		t.Fatalf("plan.New: error %d", e)
		return p, nil
	}
	m, e := mem.New(p.Size)
	if e != api.OK {
		t.Fatalf("mem.New: error %d", e)
		return p, nil
	}
	for b := range blocks {
		m.Store(p.Table+b, Block(api.BlockUsed, 1, 1, 0))
	}
	for a := p.Heap; a < p.Size; a++ {
		m.Store(a, Junk)
	}
	first := 0
	for _, b := range slices.Backward(free) {
		m.Store(p.Table+b, Block(api.BlockFree, 0, 0, first))
		first = b + 1
	}
	m.Store(api.AtBlocks, Top(first, version))
	m.Take()
	return p, m
}

// CellsOf are the cells of a block, rising.
func CellsOf(p api.Plan, block, class int) []int {
	var l []int
	for a := 0; a < api.BlockWords; a += cellWords[class] {
		l = append(l, p.Heap+api.BlockWords*block+a)
	}
	return l
}

// HeadOf is where the head of a set's list of a class stands.
func HeadOf(set, class int) int { return 3 + 3*set + class }

// FreeBlocks are those of a memory's words, first to last, at most as many as there are words, and none behind one that the table does not have.
func FreeBlocks(p api.Plan, words []uint64) []int {
	l := []int{}
	for n := int(words[api.AtBlocks] % 4096); n != 0 && len(l) < len(words); {
		l = append(l, n-1)
		if n > p.Blocks {
			break
		}
		n = int(words[p.Table+n-1] >> 5 % 128)
	}
	return l
}

// Listed are the cells on the list whose head stands at that address, likewise.
func Listed(words []uint64, at int) []int {
	l := []int{}
	for c := int(words[at] % 4096); c != 0 && len(l) < len(words); {
		l = append(l, c)
		if c >= len(words) {
			break
		}
		c = int(words[c] >> 12 % 4096)
	}
	return l
}

// CheckFree tells if other blocks are free than these, or in another order.
func CheckFree(t Teller, p api.Plan, m *mem.Memory, want ...int) {
	t.Helper()
	if got := FreeBlocks(p, Words(m)); !slices.Equal(got, want) {
		t.Errorf("the blocks %d are free, want %d", got, want)
	}
}

// CheckListed tells if a list has other cells than these, or in another order.
func CheckListed(t Teller, m *mem.Memory, set, class int, want ...int) {
	t.Helper()
	if got := Listed(Words(m), HeadOf(set, class)); !slices.Equal(got, want) {
		t.Errorf("the list of set %d, class %d has %d, want %d", set, class, got, want)
	}
}

// CheckGrey tells if other objects are grey than these, or in another order.
func CheckGrey(t Teller, m *mem.Memory, want ...int) {
	t.Helper()
	if got := Listed(Words(m), api.AtGrey); !slices.Equal(got, want) {
		t.Errorf("grey are %d, want %d", got, want)
	}
}
