package grey

import (
	"math"
	"slices"
	"testing"

	"flit/api"
	"flit/edges"
	"flit/head"
	"flit/mem"
	"flit/watch"
)

// beyond are bits of a word above those of a list's head.
const beyond uint64 = 0xfff << 52

// classOf is the class of an object, said here once more.
func classOf(count int) int {
	if count <= 3 {
		return 0
	}
	return 1
}

// countOf is how many fields the object at an address has in these tests, so that objects beside one another are not alike.
func countOf(at int) int { return at / 4 % 8 }

// white is the header of the object at an address that has that mark.
func white(at, mark int) uint64 { return watch.Object(classOf(countOf(at)), countOf(at), mark) }

// grey is its header while it is grey.
func grey(at, mark, link int) uint64 {
	return watch.Grey(classOf(countOf(at)), countOf(at), mark, link)
}

// made is a memory in which these objects, with the mark 1, are grey, the first one first; the list's head has that version. No other word is nought.
func made(t *testing.T, version int, list ...int) *mem.Memory {
	t.Helper()
	m, e := mem.New(160)
	if e != api.OK {
		t.Fatalf("mem.New: error %d", e)
	}
	for a := range m.Len() {
		m.Store(a, watch.Junk)
	}
	first := 0
	for _, c := range slices.Backward(list) {
		m.Store(c, grey(c, 1, first))
		first = c
	}
	m.Store(api.AtGrey, watch.Top(first, version))
	m.Take()
	return m
}

// listed are the grey objects, first to last.
func listed(m *mem.Memory) []int { return watch.Listed(watch.Words(m), api.AtGrey) }

func checkListed(t *testing.T, m *mem.Memory, want ...int) {
	t.Helper()
	if got := listed(m); !slices.Equal(got, want) {
		t.Errorf("the list has %d, want %d", got, want)
	}
}

func checkResult(t *testing.T, x *Next, at, count int) {
	t.Helper()
	if a, n := x.Result(); a != at || n != count {
		t.Errorf("Result is %d, %d; want %d, %d", a, n, at, count)
	}
}

// shade makes an object grey by a machine of its own: how many steps it took.
func shade(t *testing.T, m *mem.Memory, at, mark int) int {
	t.Helper()
	return watch.Run(t, NewShade(at, mark), m)
}

// next takes a grey one by a machine of its own.
func next(t *testing.T, m *mem.Memory) (at, count int) {
	t.Helper()
	x := NewNext()
	watch.Run(t, x, m)
	return x.Result()
}

// look is a machine of which each step is looked at: which access it does, and what all words are behind it.
type look struct {
	t    *testing.T
	m    *mem.Memory
	x    watch.Machine
	want []uint64
}

func lookAt(t *testing.T, m *mem.Memory, x watch.Machine) *look {
	return &look{t, m, x, watch.Words(m)}
}

func (l *look) step(a api.Access, done bool) {
	l.t.Helper()
	watch.Step(l.t, l.x, l.m, a, done)
	watch.CheckWords(l.t, l.m, l.want)
	if x, ok := l.x.(*Next); ok && !done {
		checkResult(l.t, x, 0, 0)
	}
}

// stored changes a word from outside, between two steps.
func (l *look) stored(a int, w uint64) {
	l.m.Store(a, w)
	l.want[a] = w
}

// marked is a Shade's steps 1 and 2, behind which the header is that word.
func (l *look) marked(at int, header uint64) {
	l.t.Helper()
	l.step(watch.Load(at), false)
	l.want[at] = header
	l.step(watch.CAS(at, true), false)
}

// linked is a Shade's steps 3 and 4, with a list whose head is as it is now; header is the one without a link.
func (l *look) linked(at int, header uint64) {
	l.t.Helper()
	l.step(watch.Load(api.AtGrey), false)
	l.want[at] = header | l.want[api.AtGrey]%4096<<12
	l.step(watch.Store(at), false)
}

// joined is a Shade's step 5, its last one.
func (l *look) joined(at int) {
	l.t.Helper()
	l.want[api.AtGrey] = headBehind(l.want[api.AtGrey], at)
	l.step(watch.CAS(api.AtGrey, true), true)
	watch.CheckDone(l.t, l.x, l.m)
}

// left is a Next's steps 1 to 3, of the object that is first.
func (l *look) left(at, link int) {
	l.t.Helper()
	l.step(watch.Load(api.AtGrey), false)
	l.step(watch.Load(at), false)
	l.want[api.AtGrey] = headBehind(l.want[api.AtGrey], link)
	l.step(watch.CAS(api.AtGrey, true), false)
}

// told is a Next's step 4, its last one, behind which the header is that word.
func (l *look) told(at, count int, header uint64) {
	l.t.Helper()
	l.want[at] = header
	l.step(watch.Store(at), true)
	checkResult(l.t, l.x.(*Next), at, count)
	watch.CheckDone(l.t, l.x, l.m)
	checkResult(l.t, l.x.(*Next), at, count)
}

// headBehind is the word that takes the place of a head.
func headBehind(w uint64, first int) uint64 {
	version := (w>>12 + 1) % (1 << 40)
	return watch.Top(first, int(version))
}

// P11.1: a Shade of 0 is done at once, with no access, whatever the mark.
func TestShadeOfNought(t *testing.T) {
	for _, mark := range append(edges.Numbers(), 0, 1) {
		m := made(t, 3, 96)
		m.Store(0, white(0, 0))
		before, count := watch.Words(m), m.Count()
		x := NewShade(0, mark)
		watch.CheckDone(t, x, m)
		watch.CheckWords(t, m, before)
		if m.Count() != count {
			t.Errorf("mark %d: %d accesses", mark, m.Count()-count)
		}
	}
}

// P11.1: what is no object is passed over with one step, whatever else its header has; no word changes.
func TestShadeOfNoObject(t *testing.T) {
	for _, state := range []uint64{api.CellFree, api.CellWide, 3} {
		for _, rest := range []uint64{0, 1 << 7, 1 << 8, 96 << 12, math.MaxUint64} {
			for mark := range 2 {
				m := made(t, 3, 100)
				m.Store(96, rest&^3|state)
				l := lookAt(t, m, NewShade(96, mark))
				l.step(watch.Load(96), true)
				watch.CheckDone(t, l.x, m)
				watch.CheckWords(t, m, l.want)
			}
		}
	}
}

// P11.1: an object that has the mark is passed over likewise, grey or not, on the list or not.
func TestShadeOfMarked(t *testing.T) {
	for mark := range 2 {
		for _, w := range []uint64{
			white(96, mark), grey(96, mark, 0), grey(96, mark, 100),
			white(96, mark) | 5<<9, white(96, mark) | 2<<9 | 64<<12, watch.Object(3, 0, mark),
		} {
			for _, list := range [][]int{nil, {100}} {
				m := made(t, 3, list...)
				m.Store(96, w)
				l := lookAt(t, m, NewShade(96, mark))
				l.step(watch.Load(96), true)
				watch.CheckDone(t, l.x, m)
				watch.CheckWords(t, m, l.want)
			}
		}
	}
	m := made(t, 0, 100, 96)
	l := lookAt(t, m, NewShade(100, 1))
	l.step(watch.Load(100), true)
	checkListed(t, m, 100, 96)
}

// P11.1: an object without the mark: five steps, of which the second one gives the mark, and the last one brings it onto the list, ahead of what is there.
func TestShade(t *testing.T) {
	for _, x := range []struct {
		version int
		list    []int
	}{
		{0, nil}, {1, nil}, {0, []int{100}}, {77, []int{64, 100, 32}}, {1<<40 - 2, []int{100}}, {1<<40 - 1, nil},
	} {
		for mark := range 2 {
			for _, at := range []int{96, 2, 36, 159} {
				m := made(t, x.version, x.list...)
				m.Store(at, white(at, 1-mark))
				l := lookAt(t, m, NewShade(at, mark))
				l.marked(at, grey(at, mark, 0))
				checkListed(t, m, x.list...)
				l.linked(at, grey(at, mark, 0))
				checkListed(t, m, x.list...)
				l.joined(at)
				checkListed(t, m, append([]int{at}, x.list...)...)
			}
		}
	}
}

// P11.1: state, class, count and tag stay; Mark, Grey and Link are set, whatever they were.
func TestShadeKeepsTheRest(t *testing.T) {
	for bits := range 1 << 10 { // class, count, the other grey, tag, and one of two links
		old := api.Head{
			State: api.CellObject,
			Class: bits % 4,
			Count: bits >> 2 % 8,
			Grey:  bits >> 5 % 2,
			Tag:   bits >> 6 % 8,
			Link:  bits >> 9 * 4095,
		}
		for mark := range 2 {
			old.Mark = 1 - mark
			m := made(t, 5, 100)
			m.Store(96, head.Word(old))
			behind := watch.Grey(old.Class, old.Count, mark, 0) + uint64(old.Tag)<<9
			l := lookAt(t, m, NewShade(96, mark))
			l.marked(96, behind)
			l.linked(96, behind)
			l.joined(96)
		}
	}
}

// P11.1: the highest address that there is.
func TestShadeAtTheEnd(t *testing.T) {
	m, _ := mem.New(api.MaxWords)
	m.Store(4095, white(4095, 0))
	l := lookAt(t, m, NewShade(4095, 1))
	l.marked(4095, grey(4095, 1, 0))
	l.linked(4095, grey(4095, 1, 0))
	l.joined(4095)
	m.Store(96, white(96, 0))
	l = lookAt(t, m, NewShade(96, 1))
	l.marked(96, grey(96, 1, 0))
	l.linked(96, grey(96, 1, 0))
	l.joined(96)
	checkListed(t, m, 96, 4095)
	l = lookAt(t, m, NewNext())
	l.left(96, 4095)
	l.told(96, countOf(96), white(96, 1))
}

// P11.1: a header that is another one at step 2: the Shade goes on at its step 1, and by what it finds there.
func TestShadeOfAnotherHeader(t *testing.T) {
	for mark := range 2 {
		for _, now := range []uint64{
			grey(96, mark, 0), grey(96, mark, 100), white(96, mark), // it has the mark by then
			watch.Free(1, 100), 0, 2 | white(96, 1-mark)&^3, math.MaxUint64, // it is no object by then
		} {
			m := made(t, 3, 100)
			m.Store(96, white(96, 1-mark))
			l := lookAt(t, m, NewShade(96, mark))
			l.step(watch.Load(96), false)
			l.stored(96, now)
			l.step(watch.CAS(96, false), false)
			l.step(watch.Load(96), true)
			watch.CheckDone(t, l.x, m)
			watch.CheckWords(t, m, l.want)
		}
	}
}

// P11.1: it goes on so as often as the header is another one; of the last one that it read all else stays.
func TestShadeOfHeadersThatChange(t *testing.T) {
	for mark := range 2 {
		m := made(t, 3, 100)
		m.Store(96, white(96, 1-mark))
		l := lookAt(t, m, NewShade(96, mark))
		for tag := range uint64(8) {
			l.step(watch.Load(96), false)
			l.stored(96, white(96, 1-mark)|(tag+1)%8<<9|40<<12)
			l.step(watch.CAS(96, false), false)
		}
		l.stored(96, watch.Object(1, 7, 1-mark)|3<<9)
		l.marked(96, watch.Grey(1, 7, mark, 0)|3<<9)
		l.linked(96, watch.Grey(1, 7, mark, 0)|3<<9)
		l.joined(96)
		checkListed(t, m, 96, 100)
	}
}

// P11.1: all bits of the header are held against what was found; one that is as it was is the same, whatever it was in between.
func TestShadeHoldsAllBits(t *testing.T) {
	for bit := range 64 {
		m := made(t, 0)
		m.Store(96, white(96, 0))
		l := lookAt(t, m, NewShade(96, 1))
		l.step(watch.Load(96), false)
		l.stored(96, white(96, 0)^1<<bit)
		l.step(watch.CAS(96, false), false)
	}
	m := made(t, 0)
	m.Store(96, white(96, 0))
	l := lookAt(t, m, NewShade(96, 1))
	l.step(watch.Load(96), false)
	m.Store(96, 0)
	m.Store(96, white(96, 0))
	l.want[96] = grey(96, 1, 0)
	l.step(watch.CAS(96, true), false)

	m = made(t, 0)
	m.Store(96, white(96, 0)|1<<24|beyond)
	l = lookAt(t, m, NewShade(96, 1))
	l.marked(96, grey(96, 1, 0))
}

// P11.1: a list that is another one at step 5: the Shade goes on at its step 3, and stores the Link anew; the header is not asked any more.
func TestShadeOfAnotherList(t *testing.T) {
	for _, now := range []struct {
		name string
		list []int
		do   func(m *mem.Memory)
	}{
		{"another is first", []int{64, 100}, func(m *mem.Memory) { shade(t, m, 64, 1) }},
		{"none is left", nil, func(m *mem.Memory) { next(t, m) }},
		{"another one alone", []int{64}, func(m *mem.Memory) { next(t, m); shade(t, m, 64, 1) }},
		{"the same one first again", []int{100}, func(m *mem.Memory) { next(t, m); shade(t, m, 100, 0) }},
		{"one that went", []int{100}, func(m *mem.Memory) { shade(t, m, 64, 1); next(t, m) }},
	} {
		for _, late := range []bool{false, true} {
			m := made(t, 3, 100)
			m.Store(96, white(96, 0))
			m.Store(64, white(64, 0))
			l := lookAt(t, m, NewShade(96, 1))
			l.marked(96, grey(96, 1, 0))
			if late {
				l.linked(96, grey(96, 1, 0))
				now.do(m)
				l.want = watch.Words(m)
			} else {
				l.step(watch.Load(api.AtGrey), false)
				now.do(m)
				l.want = watch.Words(m)
				l.want[96] = grey(96, 1, 100) // by what was seen, though it is old
				l.step(watch.Store(96), false)
			}
			l.step(watch.CAS(api.AtGrey, false), false)
			l.linked(96, grey(96, 1, 0))
			l.joined(96)
			if got, want := listed(m), append([]int{96}, now.list...); !slices.Equal(got, want) {
				t.Errorf("%s: the list has %d, want %d", now.name, got, want)
			}
		}
	}
}

// P11.1: it goes on so as often as the list is another one; what is done ahead of its step 3 is no hindrance.
func TestShadeOfListsThatChange(t *testing.T) {
	m := made(t, 3)
	m.Store(96, white(96, 0))
	l := lookAt(t, m, NewShade(96, 1))
	l.marked(96, grey(96, 1, 0))
	for c := 32; c < 64; c += 4 {
		l.stored(c, white(c, 0))
		shade(t, m, c, 1)
		l.want = watch.Words(m)
		l.linked(96, grey(96, 1, 0))
		next(t, m)
		l.want = watch.Words(m)
		l.step(watch.CAS(api.AtGrey, false), false)
	}
	l.linked(96, grey(96, 1, 0))
	l.joined(96)
	checkListed(t, m, 96)
}

// P11.1: all bits of the list's head are held against what was seen; a version goes round, and what is above a Top in the head is not taken over.
func TestShadeHoldsAllBitsOfTheList(t *testing.T) {
	for bit := range 64 {
		m := made(t, 4, 100)
		m.Store(96, white(96, 0))
		l := lookAt(t, m, NewShade(96, 1))
		l.marked(96, grey(96, 1, 0))
		l.linked(96, grey(96, 1, 0))
		l.stored(api.AtGrey, watch.Top(100, 4)^1<<bit)
		l.step(watch.CAS(api.AtGrey, false), false)
		l.step(watch.Load(api.AtGrey), false)
	}
	m := made(t, 0)
	m.Store(api.AtGrey, watch.Top(100, 1<<40-1)|beyond)
	m.Store(96, white(96, 0))
	shade(t, m, 96, 1)
	watch.CheckWord(t, m, api.AtGrey, watch.Top(96, 0))
	watch.CheckWord(t, m, 96, grey(96, 1, 100))
}

// P11.1: at step 4 that header is stored which step 2 wrote, whatever the word has by then.
func TestShadeStoresItsHeader(t *testing.T) {
	m := made(t, 0, 100)
	m.Store(96, white(96, 0))
	l := lookAt(t, m, NewShade(96, 1))
	l.marked(96, grey(96, 1, 0))
	l.stored(96, watch.Junk)
	l.linked(96, grey(96, 1, 0))
	l.joined(96)
}

// P11.2: of an empty list the first step is the last one, with none, whatever its version; no word changes.
func TestNextOfNone(t *testing.T) {
	for _, w := range []uint64{0, watch.Top(0, 1), watch.Top(0, 1<<40-1), beyond, math.MaxUint64 &^ 0xfff} {
		m := made(t, 0)
		m.Store(api.AtGrey, w)
		x := NewNext()
		checkResult(t, x, 0, 0)
		l := lookAt(t, m, x)
		l.step(watch.Load(api.AtGrey), true)
		checkResult(t, x, 0, 0)
		watch.CheckDone(t, x, m)
		checkResult(t, x, 0, 0)
		watch.CheckWords(t, m, l.want)
	}
}

// P11.2: of one object and of several: four steps, of which the third one takes the first object off, and the last one lets it be grey no more; no other word changes.
func TestNext(t *testing.T) {
	for _, x := range []struct {
		version int
		list    []int
	}{
		{0, []int{96}}, {5, []int{96}}, {2, []int{96, 100}}, {2, []int{100, 96}},
		{7, []int{28, 156, 2, 96, 100, 4}}, {1<<40 - 1, []int{96, 100}}, {1<<40 - 2, []int{159}},
	} {
		m := made(t, x.version, x.list...)
		first, rest := x.list[0], x.list[1:]
		after := append(rest, 0)[0]
		l := lookAt(t, m, NewNext())
		l.left(first, after)
		checkListed(t, m, rest...)
		l.told(first, countOf(first), white(first, 1))
		checkListed(t, m, rest...)
	}
}

// P11.2: of the header Grey and Link are cleared, whatever they were, and all else stays; the count is the header's.
func TestNextKeepsTheRest(t *testing.T) {
	for bits := range 1 << 13 { // state, class, count, mark, grey, tag, and one of two links
		old := api.Head{
			State: bits % 4,
			Class: bits >> 2 % 4,
			Count: bits >> 4 % 8,
			Mark:  bits >> 7 % 2,
			Grey:  bits >> 8 % 2,
			Tag:   bits >> 9 % 8,
			Link:  bits >> 12 * 100,
		}
		m := made(t, 5, 96)
		m.Store(96, head.Word(old))
		want := watch.Words(m)
		x := NewNext()
		if n := watch.Run(t, x, m); n != 4 {
			t.Errorf("%+v: %d steps", old, n)
		}
		checkResult(t, x, 96, old.Count)
		want[96] = uint64(bits % (1 << 12) &^ (1 << 8))
		want[api.AtGrey] = watch.Top(old.Link, 6)
		watch.CheckWords(t, m, want)
	}
}

// P11.2: a list that is another one at step 3: the Next goes on at its step 1, and by what it finds there.
func TestNextOfAnotherList(t *testing.T) {
	for _, late := range []bool{false, true} {
		m := made(t, 3, 100)
		m.Store(96, white(96, 0))
		l := lookAt(t, m, NewNext())
		l.step(watch.Load(api.AtGrey), false)
		if late {
			l.step(watch.Load(100), false)
		}
		shade(t, m, 96, 1)
		l.want = watch.Words(m)
		if !late {
			l.step(watch.Load(100), false)
		}
		l.step(watch.CAS(api.AtGrey, false), false)
		l.left(96, 100)
		l.told(96, countOf(96), white(96, 1))
		checkListed(t, m, 100)
	}
}

// P11.2: so it is as often as the list is another one, if the same object is first again, with another link and another count, too, and if none is left.
func TestNextOfListsThatChange(t *testing.T) {
	m := made(t, 3, 100)
	l := lookAt(t, m, NewNext())
	for c := 32; c < 64; c += 4 {
		l.step(watch.Load(api.AtGrey), false)
		l.step(watch.Load(listed(m)[0]), false)
		m.Store(c, white(c, 0))
		shade(t, m, c, 1)
		l.want = watch.Words(m)
		l.step(watch.CAS(api.AtGrey, false), false)
	}
	l.left(60, 56)
	l.told(60, countOf(60), white(60, 1))

	m = made(t, 3, 100, 64)
	l = lookAt(t, m, NewNext())
	l.step(watch.Load(api.AtGrey), false)
	l.step(watch.Load(100), false)
	l.stored(100, watch.Grey(1, 7, 0, 32))
	l.stored(api.AtGrey, watch.Top(100, 4))
	l.step(watch.CAS(api.AtGrey, false), false)
	l.left(100, 32)
	l.told(100, 7, watch.Object(1, 7, 0))

	m = made(t, 3, 100, 64)
	l = lookAt(t, m, NewNext())
	l.step(watch.Load(api.AtGrey), false)
	l.step(watch.Load(100), false)
	l.stored(api.AtGrey, watch.Top(0, 4))
	l.step(watch.CAS(api.AtGrey, false), false)
	l.step(watch.Load(api.AtGrey), true)
	checkResult(t, l.x.(*Next), 0, 0)
}

// P11.2: all bits of the list's head are held against what was seen; what is above a Top in the head is not taken over.
func TestNextHoldsAllBits(t *testing.T) {
	for bit := range 64 {
		m := made(t, 4, 100, 64)
		l := lookAt(t, m, NewNext())
		l.step(watch.Load(api.AtGrey), false)
		l.step(watch.Load(100), false)
		l.stored(api.AtGrey, watch.Top(100, 4)^1<<bit)
		l.step(watch.CAS(api.AtGrey, false), false)
	}
	m := made(t, 4, 100, 64)
	m.Store(api.AtGrey, watch.Top(100, 4)|beyond)
	if at, count := next(t, m); at != 100 || count != countOf(100) {
		t.Errorf("%d, %d are told", at, count)
	}
	watch.CheckWord(t, m, api.AtGrey, watch.Top(64, 5))
}

// P11.2: at step 4 the header is stored that step 2 read, and what is told is of that; what others do with the list behind step 3 is no hindrance.
func TestNextStoresWhatItRead(t *testing.T) {
	m := made(t, 4, 100, 64)
	m.Store(96, white(96, 0))
	l := lookAt(t, m, NewNext())
	l.left(100, 64)
	shade(t, m, 96, 1)
	l.want = watch.Words(m)
	l.stored(100, watch.Junk)
	l.told(100, countOf(100), white(100, 1))
	checkListed(t, m, 96, 64)
}

// P11.1, P11.2: alone, what was shaded last is told first, each with its count, and then none; no word changes but the headers and the list's head.
func TestLastIsFirst(t *testing.T) {
	for mark := range 2 {
		m := made(t, 0)
		l := []int{96, 2, 100, 32, 159, 64, 68, 72, 76, 80, 84, 88}
		want := watch.Words(m)
		for _, c := range l {
			m.Store(c, white(c, 1-mark))
			want[c] = white(c, mark)
			if n := shade(t, m, c, mark); n != 5 {
				t.Errorf("%d steps", n)
			}
		}
		for _, c := range l {
			if n := shade(t, m, c, mark); n != 1 {
				t.Errorf("of one that is grey: %d steps", n)
			}
		}
		for _, c := range slices.Backward(l) {
			if at, count := next(t, m); at != c || count != countOf(c) {
				t.Errorf("%d, %d are told, want %d, %d", at, count, c, countOf(c))
			}
			if n := shade(t, m, c, mark); n != 1 {
				t.Errorf("of one that was told: %d steps", n)
			}
		}
		if at, count := next(t, m); at != 0 || count != 0 {
			t.Errorf("of an empty list %d, %d are told", at, count)
		}
		want[api.AtGrey] = watch.Top(0, 2*len(l))
		watch.CheckWords(t, m, want)
		if m.Traps() != 0 {
			t.Errorf("%d traps", m.Traps())
		}
	}
}

// P11.1, P11.2: the chapter's examples.
func TestExamples(t *testing.T) {
	m, _ := mem.New(160)
	m.Store(96, watch.Object(0, 1, 0))
	for _, x := range []struct{ at, steps int }{{96, 5}, {96, 1}, {0, 0}} {
		s, count := NewShade(x.at, 1), m.Count()
		for k := 1; k < x.steps; k++ {
			if s.Step(m) {
				t.Errorf("a Shade of %d is done with its step %d", x.at, k)
			}
		}
		if !s.Step(m) || m.Count() != count+x.steps {
			t.Errorf("a Shade of %d is not done, or takes %d accesses", x.at, m.Count()-count)
		}
	}
	x := NewNext()
	if x.Step(m) || x.Step(m) || x.Step(m) || !x.Step(m) {
		t.Error("a Next's four steps are not false, false, false, true")
	}
	checkResult(t, x, 96, 1)
	watch.CheckWord(t, m, 96, 145)
}

// R6: a new machine does no access; what it does hangs on its steps' moments, and what it tells does not change any more.
func TestMachinesAreOfTheirSteps(t *testing.T) {
	m := made(t, 0)
	m.Store(96, white(96, 0))
	m.Store(100, white(100, 0))
	count := m.Count()
	x, s := NewNext(), NewShade(96, 1)
	if m.Count() != count {
		t.Error("a new machine does an access")
	}
	shade(t, m, 100, 1)
	shade(t, m, 96, 1)
	if n := watch.Run(t, s, m); n != 1 {
		t.Errorf("%d steps of a Shade", n)
	}
	if n := watch.Run(t, x, m); n != 4 {
		t.Errorf("%d steps of a Next", n)
	}
	next(t, m)
	m.Store(96, watch.Junk)
	checkResult(t, x, 96, countOf(96))
	watch.CheckDone(t, x, m)
	checkResult(t, x, 96, countOf(96))
}

// R6: a copy of a machine goes its own way, at each step of it.
func TestCopiesGoTheirOwnWay(t *testing.T) {
	for steps := range 5 {
		m := made(t, 0, 100)
		m.Store(96, white(96, 0))
		x := NewShade(96, 1)
		for range steps {
			x.Step(m)
		}
		y, n := *x, m.Clone()
		if more := watch.Run(t, x, m); more != 5-steps {
			t.Errorf("the machine takes %d more steps", more)
		}
		if more := watch.Run(t, &y, n); more != 5-steps {
			t.Errorf("the copy takes %d more steps", more)
		}
		watch.CheckWords(t, n, watch.Words(m))
	}
	for steps := range 4 {
		m := made(t, 0, 100, 64)
		x := NewNext()
		for range steps {
			x.Step(m)
		}
		y, n := *x, m.Clone()
		if more := watch.Run(t, x, m); more != 4-steps {
			t.Errorf("the machine takes %d more steps", more)
		}
		checkResult(t, &y, 0, 0)
		if more := watch.Run(t, &y, n); more != 4-steps {
			t.Errorf("the copy takes %d more steps", more)
		}
		checkResult(t, &y, 100, countOf(100))
		watch.CheckWords(t, n, watch.Words(m))
	}
}

// P11.1: of a mark that is neither 0 nor 1 no header has it, and its lowest bit stands in the header then.
func TestShadeOfOtherMarks(t *testing.T) {
	for _, n := range edges.Numbers() {
		if n == 0 || n == 1 {
			continue
		}
		for was := range 2 {
			m := made(t, 0, 100)
			m.Store(96, white(96, was))
			if steps := shade(t, m, 96, n); steps != 5 {
				t.Errorf("mark %d: %d steps", n, steps)
			}
			watch.CheckWord(t, m, 96, grey(96, int(edges.Modulo(n, 1)), 100))
			checkListed(t, m, 96, 100)
		}
	}
}

// R1: of an address that the memory does not have the Load is a trap that answers 0: no object, so that it is done; no word changes.
func TestShadeOfWrongNumbers(t *testing.T) {
	for _, n := range edges.Numbers() {
		m := made(t, 0, 100)
		if n >= 0 && n < m.Len() {
			continue
		}
		before := watch.Words(m)
		x, count := NewShade(n, 1), m.Count()
		if !x.Step(m) || m.Count() != count+1 || m.Traps() != 1 {
			t.Errorf("%d: it is not done, or there are %d accesses, %d traps", n, m.Count()-count, m.Traps())
		}
		watch.CheckDone(t, x, m)
		watch.CheckWords(t, m, before)
	}
}

// R1: the words ahead of all blocks are asked like others, the list's own word too: each step is one access, and there is an end.
func TestShadeOfTheListsWord(t *testing.T) {
	for _, w := range []uint64{0, 1, 1 | 1<<7, 1 | 5<<12, watch.Junk} {
		for mark := range 2 {
			m := made(t, 0)
			m.Store(api.AtGrey, w)
			count := m.Count()
			n := shade(t, m, api.AtGrey, mark)
			if m.Count() != count+n || m.Traps() != 0 {
				t.Errorf("%#x: %d steps, %d accesses, %d traps", w, n, m.Count()-count, m.Traps())
			}
		}
	}
}

// R1: of a memory that has no list there is none; a list that names what is not there is told, with no fields.
func TestMemoryThatIsShort(t *testing.T) {
	m, _ := mem.New(1)
	x := NewNext()
	if !x.Step(m) || m.Count() != 1 || m.Traps() != 1 {
		t.Errorf("it is not done, or there are %d accesses, %d traps", m.Count(), m.Traps())
	}
	checkResult(t, x, 0, 0)
	watch.CheckDone(t, x, m)
	m, _ = mem.New(2)
	m.Store(api.AtGrey, watch.Top(96, 3))
	y := NewNext()
	if n := watch.Run(t, y, m); n != 4 || m.Count() != 5 || m.Traps() != 2 {
		t.Errorf("%d steps, %d accesses, %d traps", n, m.Count(), m.Traps())
	}
	checkResult(t, y, 96, 0)
	watch.CheckWords(t, m, []uint64{0, watch.Top(0, 4)})
}

// R1: machines that nobody made are done, with none.
func TestMadeByNobody(t *testing.T) {
	m := made(t, 0, 96)
	watch.CheckDone(t, &Shade{}, m)
	x := &Next{}
	watch.CheckDone(t, x, m)
	checkResult(t, x, 0, 0)
}
