package watch

import (
	"slices"
	"testing"

	"flit/api"
	"flit/plan"
)

// What is said here once more is what plan says.
func TestPlacesOfBlocks(t *testing.T) {
	p, _ := Made(t, 2, 4, 0)
	for class := range 3 {
		for set := range 2 {
			if got, want := HeadOf(set, class), plan.List(set, class); got != want {
				t.Errorf("HeadOf: %d, want %d", got, want)
			}
		}
		for block := range 4 {
			l := CellsOf(p, block, class)
			if len(l) != plan.Cells(class) {
				t.Errorf("class %d: %d cells", class, len(l))
			}
			for k, c := range l {
				if want := plan.Cell(p, block, class, k); c != want {
					t.Errorf("the cell %d of class %d is %d, want %d", k, class, c, want)
				}
			}
		}
	}
}

// A memory that is made has the free blocks that it is to have, and nothing on a list.
func TestMade(t *testing.T) {
	p, m := Made(t, 2, 4, 7, 2, 0, 3)
	if n := len(m.Take()); n != 0 || m.Len() != p.Size {
		t.Errorf("%d accesses, %d words", n, m.Len())
	}
	CheckWord(t, m, api.AtBlocks, Top(3, 7))
	CheckFree(t, p, m, 2, 0, 3)
	CheckWord(t, m, p.Table+1, Block(api.BlockUsed, 1, 1, 0))
	CheckWord(t, m, p.Heap, Junk)
	CheckWord(t, m, p.Size-1, Junk)
	for at := api.AtLists; at < api.AtAlpha; at++ {
		CheckWord(t, m, at, 0)
	}
	var f faults
	if _, m := Made(&f, 0, 4, 0); m != nil || f != 1 {
		t.Errorf("a plan that there is not: %d faults", f)
	}
}

// A memory that is full has no word of nought.
func TestFull(t *testing.T) {
	for _, w := range Words(Full(t, 7)) {
		if w != Junk {
			t.Errorf("a word is %#x", w)
		}
	}
	var f faults
	if m := Full(&f, 0); m != nil || f != 1 {
		t.Errorf("a memory that there is not: %d faults", f)
	}
}

// Blocks and cells are told as they stand, even if they go round, or to where nothing is.
func TestRowsOfBlocksAndCells(t *testing.T) {
	p, m := Made(t, 1, 4, 0, 3, 1)
	m.Store(HeadOf(1, 1), Top(40, 0))
	m.Store(40, Free(1, 64))
	m.Store(64, Free(1, 0))
	var f faults
	CheckFree(&f, p, m, 3, 1)
	CheckListed(&f, m, 1, 1, 40, 64)
	CheckListed(&f, m, 0, 1)
	if f != 0 {
		t.Errorf("%d faults", f)
	}
	CheckFree(&f, p, m, 1, 3)
	CheckFree(&f, p, m, 3)
	CheckListed(&f, m, 1, 1, 64, 40)
	CheckListed(&f, m, 1, 1)
	if f != 4 {
		t.Errorf("%d faults", f)
	}
	m.Store(64, Free(1, 40))
	m.Store(p.Table+1, Block(api.BlockFree, 0, 0, 4))
	if n := len(Listed(Words(m), HeadOf(1, 1))); n != m.Len() {
		t.Errorf("a list that goes round: %d cells", n)
	}
	if n := len(FreeBlocks(p, Words(m))); n != m.Len() {
		t.Errorf("blocks that go round: %d", n)
	}
	m.Store(64, Free(1, 4095))
	m.Store(p.Table+1, Block(api.BlockFree, 0, 0, 127))
	if l := Listed(Words(m), HeadOf(1, 1)); !slices.Equal(l, []int{40, 64, 4095}) {
		t.Errorf("a list to where nothing is: %d", l)
	}
	if l := FreeBlocks(p, Words(m)); !slices.Equal(l, []int{3, 1, 126}) {
		t.Errorf("blocks to where nothing is: %d", l)
	}
}

// What is grey is told as it stands.
func TestCheckGrey(t *testing.T) {
	m := Full(t, 20)
	m.Store(api.AtGrey, Top(8, 5))
	m.Store(8, Grey(0, 1, 1, 12))
	m.Store(12, Grey(0, 1, 1, 0))
	var f faults
	CheckGrey(&f, m, 8, 12)
	if f != 0 {
		t.Errorf("%d faults", f)
	}
	CheckGrey(&f, m, 12, 8)
	CheckGrey(&f, m, 8)
	CheckGrey(&f, m)
	if f != 3 {
		t.Errorf("%d faults", f)
	}
}
