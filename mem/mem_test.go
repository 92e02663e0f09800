package mem

import (
	"math"
	"slices"
	"testing"

	"flit/api"
)

// made is a memory whose words are these.
func made(t *testing.T, words ...uint64) *Memory {
	t.Helper()
	m, e := New(len(words))
	if e != api.OK || m == nil {
		t.Fatalf("New(%d): error %d", len(words), e)
	}
	for a, w := range words {
		m.Store(a, w)
	}
	m.Take()
	return m
}

// words are those of m, asked of a clone, so that m does not count it.
func words(m *Memory) []uint64 {
	c := m.Clone()
	l := make([]uint64, c.Len())
	for a := range l {
		l[a] = c.Load(a)
	}
	return l
}

func checkWords(t *testing.T, m *Memory, want ...uint64) {
	t.Helper()
	if got := words(m); !slices.Equal(got, want) {
		t.Errorf("words %d, want %d", got, want)
	}
}

func checkCounts(t *testing.T, m *Memory, count, traps int) {
	t.Helper()
	if m.Count() != count || m.Traps() != traps {
		t.Errorf("%d accesses, %d traps; want %d, %d", m.Count(), m.Traps(), count, traps)
	}
}

func checkTaken(t *testing.T, m *Memory, want ...api.Access) {
	t.Helper()
	if got := m.Take(); !slices.Equal(got, want) {
		t.Errorf("taken %v, want %v", got, want)
	}
}

// P4.1.
func TestNew(t *testing.T) {
	for _, n := range []int{1, 2, 3, 5, 160, 4095, 4096} {
		m, e := New(n)
		if e != api.OK || m == nil {
			t.Errorf("New(%d): error %d", n, e)
			continue
		}
		if m.Len() != n {
			t.Errorf("New(%d) has %d words", n, m.Len())
		}
		for a := range n {
			if w := m.Load(a); w != 0 {
				t.Errorf("New(%d): the word %d is %d", n, a, w)
			}
		}
		checkCounts(t, m, n, 0)
		m.Load(n)
		checkCounts(t, m, n+1, 1)
	}
}

// P4.1: nothing was done of a new memory.
func TestNewCountsNothing(t *testing.T) {
	m, _ := New(3)
	checkCounts(t, m, 0, 0)
	checkTaken(t, m)
}

// P4.1, P4.2: two memories share no word, and no count.
func TestNewEachTime(t *testing.T) {
	m, n := made(t, 0, 0), made(t, 0, 0)
	m.Store(1, 5)
	checkWords(t, m, 0, 5)
	checkWords(t, n, 0, 0)
	checkCounts(t, n, 2, 0)
}

// P4.1, wrong sizes.
func TestNewWrong(t *testing.T) {
	for _, n := range []int{0, -1, -4096, 4097, 8192, 1 << 32, 1<<32 + 1, math.MaxInt, math.MinInt} {
		if m, e := New(n); m != nil || e != api.ErrArg {
			t.Errorf("New(%d): memory %v, error %d", n, m, e)
		}
	}
}

// P4.2: the chapter's examples.
func TestExamples(t *testing.T) {
	m, _ := New(4)
	if !m.CAS(1, 0, 5) || m.CAS(1, 0, 6) || m.Load(1) != 5 {
		t.Error("CAS(1, 0, 5) is done, CAS(1, 0, 6) behind it is not")
	}
	checkCounts(t, m, 3, 0)
	if w := m.Load(4); w != 0 {
		t.Errorf("Load(4) = %d", w)
	}
	checkCounts(t, m, 4, 1)
	if !m.CAS2(0, 0, 5, 7, 8) || m.Load(1) != 8 || m.Traps() != 1 {
		t.Error("CAS2(0, 0, 5, 7, 8) is done")
	}
	if m.CAS2(1, 8, 0, 1, 1) || m.Traps() != 2 {
		t.Error("CAS2(1, 8, 0, 1, 1) is a trap")
	}
	checkWords(t, m, 7, 8, 0, 0)
}

// P4.2.
func TestLoadStore(t *testing.T) {
	m := made(t, 0, 0, 0)
	for a := range 3 {
		for _, w := range []uint64{1, 1 << 63, math.MaxUint64, 0, 0x123456789abcdef0} {
			m.Store(a, w)
			if got := m.Load(a); got != w {
				t.Errorf("the word %d is %d, want %d", a, got, w)
			}
		}
	}
	m.Store(1, 9)
	checkWords(t, m, 0x123456789abcdef0, 9, 0x123456789abcdef0)
	m.Store(1, 9)
	m.Store(0, 0)
	checkWords(t, m, 0, 9, 0x123456789abcdef0)
}

// P4.2.
func TestCAS(t *testing.T) {
	const all = math.MaxUint64
	for _, x := range []struct {
		a      int
		old, w uint64
		yes    bool
		want   [3]uint64
	}{
		{0, 4, 7, true, [3]uint64{7, 0, all}},
		{1, 0, 7, true, [3]uint64{4, 7, all}},
		{2, all, 7, true, [3]uint64{4, 0, 7}},
		{0, 4, 4, true, [3]uint64{4, 0, all}},
		{0, 4, 0, true, [3]uint64{0, 0, all}},
		{0, 5, 7, false, [3]uint64{4, 0, all}},
		{0, 0, 7, false, [3]uint64{4, 0, all}},
		{0, 7, 7, false, [3]uint64{4, 0, all}},
		{0, 4 + 1<<63, 7, false, [3]uint64{4, 0, all}},
		{1, 4, 7, false, [3]uint64{4, 0, all}},
		{2, all >> 1, 7, false, [3]uint64{4, 0, all}},
	} {
		m := made(t, 4, 0, all)
		if got := m.CAS(x.a, x.old, x.w); got != x.yes {
			t.Errorf("CAS(%d, %d, %d) = %t", x.a, x.old, x.w, got)
		}
		checkWords(t, m, x.want[:]...)
		checkCounts(t, m, 4, 0)
		checkTaken(t, m, api.Access{Op: 3, At: x.a, OK: x.yes})
	}
}

// P4.2: both words are as they were said, or neither changes.
func TestCAS2(t *testing.T) {
	for _, x := range []struct {
		a                  int
		old0, old1, w0, w1 uint64
		yes                bool
		want               [5]uint64
	}{
		{0, 4, 5, 8, 9, true, [5]uint64{8, 9, 6, 7, 0}},
		{2, 6, 7, 8, 9, true, [5]uint64{4, 5, 8, 9, 0}},
		{2, 6, 7, 7, 6, true, [5]uint64{4, 5, 7, 6, 0}},
		{2, 6, 7, 6, 7, true, [5]uint64{4, 5, 6, 7, 0}},
		{0, 4, 5, 0, 1 << 63, true, [5]uint64{0, 1 << 63, 6, 7, 0}},
		{0, 4, 6, 8, 9, false, [5]uint64{4, 5, 6, 7, 0}},
		{0, 5, 5, 8, 9, false, [5]uint64{4, 5, 6, 7, 0}},
		{0, 5, 4, 8, 9, false, [5]uint64{4, 5, 6, 7, 0}},
		{0, 0, 0, 8, 9, false, [5]uint64{4, 5, 6, 7, 0}},
		{0, 8, 9, 8, 9, false, [5]uint64{4, 5, 6, 7, 0}},
		{2, 4, 5, 8, 9, false, [5]uint64{4, 5, 6, 7, 0}},
	} {
		m := made(t, 4, 5, 6, 7, 0)
		if got := m.CAS2(x.a, x.old0, x.old1, x.w0, x.w1); got != x.yes {
			t.Errorf("CAS2(%d, %d, %d, %d, %d) = %t", x.a, x.old0, x.old1, x.w0, x.w1, got)
		}
		checkWords(t, m, x.want[:]...)
		checkCounts(t, m, 6, 0)
		checkTaken(t, m, api.Access{Op: 4, At: x.a, OK: x.yes})
	}
}

// P4.2, P4.3: of an address at which nothing is no word changes, whatever is asked, and each access is counted, as a trap.
func TestTraps(t *testing.T) {
	for _, a := range []int{-1, -2, -3, 3, 4, 5, 4096, 1 << 32, math.MaxInt, math.MaxInt - 1, math.MinInt, math.MinInt + 1} {
		m := made(t, 7, 7, 7)
		if w := m.Load(a); w != 0 {
			t.Errorf("Load(%d) = %d", a, w)
		}
		m.Store(a, 9)
		if m.CAS(a, 0, 9) || m.CAS(a, 7, 9) {
			t.Errorf("CAS(%d) is done", a)
		}
		if m.CAS2(a, 0, 0, 9, 9) || m.CAS2(a, 7, 7, 9, 9) {
			t.Errorf("CAS2(%d) is done", a)
		}
		checkWords(t, m, 7, 7, 7)
		checkCounts(t, m, 9, 6)
		checkTaken(t, m, api.Access{Op: 1, At: a}, api.Access{Op: 2, At: a}, api.Access{Op: 3, At: a},
			api.Access{Op: 3, At: a}, api.Access{Op: 4, At: a}, api.Access{Op: 4, At: a})
	}
}

// P4.2, P4.3: CAS2 at an odd address, and at a last word that has none behind it, is a trap, though the old words are there.
func TestCAS2Traps(t *testing.T) {
	for n := 1; n <= 6; n++ {
		all := slices.Repeat([]uint64{7}, n)
		for a := range n {
			m := made(t, all...)
			there := a%2 == 0 && a+1 < n
			if got := m.CAS2(a, 7, 7, 7, 7); got != there {
				t.Errorf("of %d words CAS2 at %d is %t", n, a, got)
			}
			if !there {
				if m.CAS2(a, 7, 0, 9, 9) || m.CAS2(a, 7, 7, 9, 9) {
					t.Errorf("of %d words CAS2 at %d is done", n, a)
				}
				checkCounts(t, m, n+3, 3)
			} else {
				checkCounts(t, m, n+1, 0)
			}
			checkWords(t, m, all...)
		}
	}
}

// P4.2: the accesses behind a trap are as if there was none.
func TestBehindTrap(t *testing.T) {
	m := made(t, 1, 2)
	m.Store(2, 9)
	m.Store(1, 5)
	if m.Load(-1) != 0 || m.Load(1) != 5 || m.CAS2(1, 5, 0, 9, 9) || !m.CAS2(0, 1, 5, 6, 7) || m.CAS(2, 0, 1) || !m.CAS(0, 6, 8) {
		t.Error("a trap is seen behind it")
	}
	checkWords(t, m, 8, 7)
	checkCounts(t, m, 10, 4)
	checkTaken(t, m,
		api.Access{Op: 2, At: 2},
		api.Access{Op: 2, At: 1, OK: true},
		api.Access{Op: 1, At: -1},
		api.Access{Op: 1, At: 1, OK: true},
		api.Access{Op: 4, At: 1},
		api.Access{Op: 4, At: 0, OK: true},
		api.Access{Op: 3, At: 2},
		api.Access{Op: 3, At: 0, OK: true})
}

// P4.3: a CAS that was not done is no trap, and is not OK; a Load of 0 and a Store of what is there are.
func TestOKIsNoTrap(t *testing.T) {
	m := made(t, 0, 3)
	m.Load(0)
	m.Store(1, 3)
	m.CAS(0, 1, 2)
	m.CAS2(0, 0, 4, 1, 1)
	checkCounts(t, m, 6, 0)
	checkTaken(t, m,
		api.Access{Op: 1, At: 0, OK: true},
		api.Access{Op: 2, At: 1, OK: true},
		api.Access{Op: 3, At: 0},
		api.Access{Op: 4, At: 0})
}

// P4.3: Take tells each access once; the counts go on.
func TestTake(t *testing.T) {
	m, _ := New(2)
	checkTaken(t, m)
	m.Store(0, 1)
	m.Load(2)
	checkTaken(t, m, api.Access{Op: 2, At: 0, OK: true}, api.Access{Op: 1, At: 2})
	checkTaken(t, m)
	checkTaken(t, m)
	checkCounts(t, m, 2, 1)
	m.Load(0)
	checkTaken(t, m, api.Access{Op: 1, At: 0, OK: true})
	checkCounts(t, m, 3, 1)
	checkTaken(t, m)
	checkWords(t, m, 1, 0)
}

// P4.3: what is no access is neither counted nor told.
func TestAskingIsNoAccess(t *testing.T) {
	m := made(t, 1, 2)
	m.Load(0)
	for range 3 {
		m.Len()
		m.Count()
		m.Traps()
		m.Clone().Load(1)
	}
	checkCounts(t, m, 3, 0)
	checkTaken(t, m, api.Access{Op: 1, At: 0, OK: true})
	checkWords(t, m, 1, 2)
}

// P4.3, R7: what Take answered is the caller's own, the room behind its end too.
func TestTakenIsTheCallers(t *testing.T) {
	m := made(t, 0, 0, 0, 0)
	for a := range 3 {
		m.Load(a)
	}
	l := m.Take()
	kept := slices.Clone(l)
	m.Store(3, 1)
	m.Store(4, 1)
	if !slices.Equal(l, kept) {
		t.Errorf("taken %v is %v behind two accesses", kept, l)
	}
	l = append(l[:0], api.Access{Op: 9, At: 9}, api.Access{Op: 9, At: 9}, api.Access{Op: 9, At: 9}, api.Access{Op: 9, At: 9})
	checkTaken(t, m, api.Access{Op: 2, At: 3, OK: true}, api.Access{Op: 2, At: 4})
	if l[3].Op != 9 {
		t.Error("the caller's list was written to")
	}
}

// P4.3: a clone has the same words, counts, and accesses to be taken.
func TestClone(t *testing.T) {
	m := made(t, 4, 5)
	m.Load(2)
	m.CAS(1, 5, 6)
	c := m.Clone()
	if c.Len() != 2 {
		t.Errorf("the clone has %d words", c.Len())
	}
	told := []api.Access{{Op: 1, At: 2}, {Op: 3, At: 1, OK: true}}
	for _, x := range []*Memory{c, m} {
		checkWords(t, x, 4, 6)
		checkCounts(t, x, 4, 1)
		checkTaken(t, x, told...)
		checkTaken(t, x)
	}
}

// P4.3, R7: what is done of a memory is not seen by its clone, and the other way round, with nothing, one and more accesses to be taken.
func TestCloneGoesItsOwnWay(t *testing.T) {
	for before := range 9 {
		m := made(t, 1, 2)
		var told []api.Access
		for range before {
			m.Load(0)
			told = append(told, api.Access{Op: 1, At: 0, OK: true})
		}
		c := m.Clone()
		m.Store(0, 9)
		checkWords(t, c, 1, 2)
		checkCounts(t, c, 2+before, 0)
		c.CAS(1, 2, 8)
		c.CAS2(1, 0, 0, 0, 0)
		checkWords(t, m, 9, 2)
		checkWords(t, c, 1, 8)
		checkCounts(t, m, 3+before, 0)
		checkCounts(t, c, 4+before, 1)
		checkTaken(t, m, append(slices.Clone(told), api.Access{Op: 2, At: 0, OK: true})...)
		checkTaken(t, c, append(slices.Clone(told), api.Access{Op: 3, At: 1, OK: true}, api.Access{Op: 4, At: 1})...)
	}
}

// P4.3: of a clone's clone too; and a Take of the one leaves what the other has to tell.
func TestCloneOfClone(t *testing.T) {
	m := made(t, 1)
	m.Load(0)
	c := m.Clone()
	d := c.Clone()
	checkTaken(t, c, api.Access{Op: 1, At: 0, OK: true})
	d.Store(0, 3)
	c.Store(0, 2)
	checkWords(t, m, 1)
	checkWords(t, c, 2)
	checkWords(t, d, 3)
	checkTaken(t, d, api.Access{Op: 1, At: 0, OK: true}, api.Access{Op: 2, At: 0, OK: true})
	checkTaken(t, c, api.Access{Op: 2, At: 0, OK: true})
	checkTaken(t, m, api.Access{Op: 1, At: 0, OK: true})
}

// P4.4: behind each of many accesses, of all kinds and of every address in and around the memory, each word is as it was, but for those that a Store or a CAS that answered true is of: these are what it says.
func TestWhatChangesWords(t *testing.T) {
	const n = 5
	m := made(t, 0, 1, 2, 0, 1)
	now := words(m)
	turn := func(k int) uint64 { return uint64(k) % 3 }
	done := map[int]int{}
	for k := range 20000 {
		op, a := 1+k%4, k/4%(n+4)-2
		p, q, v, w := turn(k/36), turn(k/108), turn(k/324), turn(k/972)
		switch op {
		case 1:
			m.Load(a)
		case 2:
			m.Store(a, v)
			if a >= 0 && a < n {
				now[a] = v
			}
		case 3:
			if m.CAS(a, p, v) {
				now[a] = v
				done[op]++
			}
		case 4:
			if m.CAS2(a, p, q, v, w) {
				now[a], now[a+1] = v, w
				done[op]++
			}
		}
		if got := words(m); !slices.Equal(got, now) {
			t.Fatalf("access %d, of kind %d at %d: words %d, want %d", k, op, a, got, now)
		}
		if k%7 == 0 {
			m.Take()
		}
	}
	if done[3] == 0 || done[4] == 0 {
		t.Errorf("done %v: a kind of CAS was never done", done)
	}
}
