package clover

import (
	"math"
	"testing"

	"flit/api"
	"flit/direct"
	"flit/edges"
	"flit/mem"
	"flit/plan"
	"flit/watch"
)

// P14.1: of the address 0 it is done at once, with ErrNil and no access, whatever else is wrong; in a mode below ModePrep too.
func TestNil(t *testing.T) {
	for op := range 6 {
		for _, field := range []int{0, 1, -1, 7, 8, math.MaxInt, math.MinInt} {
			for _, mode := range append(lowModes(), highModes()...) {
				m := madeClaimed(t, scalar(5))
				m.Store(0, header(api.TagClaimed, copied))
				r := api.Req{Op: op, Field: field, Exp: scalar(5), New: sentinel()}
				watch.AtOnce(t, m, New(planned(t), r, env(mode)), api.Out{Code: api.ErrNil})
			}
		}
	}
}

// P14.1: of a field below 0, and of one not below the Count, the first step is the last one, with ErrField and no hit, whatever the Op, the mode, the tag, and who would have to wait.
func TestNoField(t *testing.T) {
	for count := range 8 {
		for _, field := range []int{-1, -8, math.MinInt, count, count + 1, 8, math.MaxInt} {
			for tag := range 8 {
				for op := range 6 {
					for _, mode := range []int{0, 4, 5, 6, 7, 8, 9} {
						m := made(t, watch.Tagged(1, count, 1, tag, copied), scalar(5))
						r := api.Req{Op: op, At: base, Field: field, Exp: scalar(5), New: sentinel()}
						l := lookAt(t, m, r, mode)
						l.Last(watch.Load(base), false, api.Out{Code: api.ErrField})
					}
				}
			}
		}
	}
}

// P14.1: each field below the Count is one, of each tag: it stands behind the header, at r.At, or at the Link, if the object was moved, or is claimed and the word at r.At is the sentinel's.
func TestEachField(t *testing.T) {
	const at, to = 64, 72
	for count := 1; count <= 7; count++ {
		for field := range count {
			for tag := range 8 {
				for op := api.Read; op <= api.Swap; op++ {
					for _, away := range []bool{false, true} {
						m := made(t, header(0, 0), scalar(0))
						m.Store(at, watch.Tagged(1, count, 0, tag, to))
						place := at
						if tag == api.TagMoved || tag == api.TagClaimed && away {
							place = to
						}
						m.Store(at+1+field, watch.Field(sentinel()))
						m.Store(place+1+field, watch.Field(scalar(77)))
						before := watch.Words(m)
						x := New(planned(t), api.Req{Op: op, At: at, Field: field, Exp: scalar(77), New: scalar(78)}, env(6))
						watch.Run(t, x, m)
						want := api.Out{Yes: op == api.Swap}
						if op == api.Read {
							want.V = scalar(77)
						} else {
							before[place+1+field] = watch.Field(scalar(78))
						}
						if x.Result() != want || m.Traps() != 0 {
							t.Errorf("Op %d of the field %d of %d, tag %d: %v", op, field, count, tag, x.Result())
						}
						watch.CheckWords(t, m, before)
					}
				}
			}
		}
	}
}

// P14.1: in a mode below ModePrep it does what a Plain does, step by step, whatever the tag, the sentinel and the block: nothing is asked of these.
func TestBelowPrep(t *testing.T) {
	l := append(accesses(), writing(sentinel())...)
	l = append(l, api.Req{At: base}, api.Req{Op: 4, At: base, New: ref(there)})
	for _, mode := range lowModes() {
		for tag := range 8 {
			for _, v := range []api.Val{scalar(5), sentinel(), ref(0), ref(there), ref(old)} {
				made := made(t, header(tag, copied), v)
				for _, r := range l {
					for mark := range 2 {
						e := api.Env{Mode: mode, Mark: mark, Alpha: alpha}
						watch.Alike(t, made.Clone(), New(planned(t), r, e), direct.NewPlain(r, e))
					}
				}
			}
		}
	}
}

// P14.1: so the sentinel is written in the last mode below ModePrep, and the Link is not gone by; from ModePrep on not so.
func TestFirstModeOfMoves(t *testing.T) {
	r := api.Req{Op: api.Write, At: base, New: sentinel()}
	for _, tag := range []int{api.TagNone, api.TagClaimed, api.TagMoved} {
		l := lookAt(t, made(t, header(tag, copied), scalar(5)), r, api.ModeSweep)
		l.Step(watch.Load(base), false)
		l.Stores(base+1, sentinel())
	}
	l := lookAt(t, made(t, header(api.TagNone, 0), scalar(5)), r, api.ModePrep)
	l.Step(watch.Load(base), false)
	l.waits(11, false)
	l = lookAt(t, madeClaimed(t, scalar(5)), r, api.ModePrep)
	l.Step(watch.Load(base), false)
	l.waits(base+1, true)
	l = lookAt(t, madeAway(t, api.TagMoved, scalar(5)), r, api.ModePrep)
	l.Step(watch.Load(base), false)
	l.Stores(copied+1, sentinel())
}

// P14.1: of an object that was moved, the header, then the steps of a Direct at its Link, with its hits and its Out: with Canon, with Fix just in ModeFix, and never with Shade. The sentinel is nothing of its own there.
func TestMoved(t *testing.T) {
	l := append(accesses(), writing(sentinel())...)
	for _, mode := range highModes() {
		for _, v := range append(values(), sentinel()) {
			for _, r := range l {
				l := lookAt(t, madeAway(t, api.TagMoved, v), r, mode)
				l.Step(watch.Load(base), false)
				l.Direct(copied, r, fixes(mode))
			}
		}
	}
}

// P14.1: a Read of an object that is claimed, with a field that is still where it was: the header, and the field, which is a hit; it tells what the field has, also in ModeFix. A word of the sentinel that is frozen is not the sentinel's.
func TestReadOfClaimed(t *testing.T) {
	for _, mode := range highModes() {
		for _, v := range append(values(), sentinel()) {
			for _, bit := range []uint64{0, frozen} {
				if v == sentinel() && bit == 0 {
					continue
				}
				m := madeClaimed(t, v)
				m.Store(base+1, watch.Field(v)|bit)
				l := lookAt(t, m, api.Req{Op: api.Read, At: base, New: sentinel()}, mode)
				l.Step(watch.Load(base), false)
				l.Last(watch.Load(base+1), true, api.Out{V: v})
			}
		}
	}
}

// P14.1: a Swap of it that expects something else is done with that, also if both are one object's references, if all closes, or if it would lay the sentinel down.
func TestSwapOfClaimedThatExpectsSomethingElse(t *testing.T) {
	for _, mode := range highModes() {
		for _, v := range values() {
			for _, w := range []api.Val{scalar(6), ref(there), sentinel()} {
				for _, r := range writing(w) {
					if r.Op != api.Swap || r.Exp == v {
						continue
					}
					l := lookAt(t, madeClaimed(t, v), r, mode)
					l.Step(watch.Load(base), false)
					l.Last(watch.Load(base+1), true, api.Out{})
				}
			}
		}
	}
}

// P14.1: a Write, and a Swap that expects what the field has, below ModeClose: the header, the field, and the CAS that lays New down where the field was; the last two are hits. The copy is left as it is.
func TestWriteOfClaimed(t *testing.T) {
	for _, mode := range []int{api.ModePrep, api.ModeCopy} {
		for _, v := range values() {
			for _, bit := range []uint64{0, frozen} {
				for _, w := range append(values(), v) {
					for op := api.Write; op <= api.Swap; op++ {
						m := madeClaimed(t, v)
						m.Store(base+1, watch.Field(v)|bit)
						r := api.Req{Op: op, At: base, Exp: v, New: w}
						l := lookAt(t, m, r, mode)
						l.Step(watch.Load(base), false)
						l.Step(watch.Load(base+1), true)
						l.writes(r)
					}
				}
			}
		}
	}
}

// P14.1: they have to wait from ModeClose on, whatever they lay down, and in each mode, if that is the sentinel: ErrBusy, and nothing was done.
func TestWriteOfClaimedThatWaits(t *testing.T) {
	for _, mode := range highModes() {
		for _, v := range values() {
			for _, w := range append(values(), sentinel()) {
				if !closes(mode) && w != sentinel() {
					continue
				}
				for op := api.Write; op <= api.Swap; op++ {
					l := lookAt(t, madeClaimed(t, v), api.Req{Op: op, At: base, Exp: v, New: w}, mode)
					l.Step(watch.Load(base), false)
					l.waits(base+1, true)
				}
			}
		}
	}
}

// P14.1: where the word is the sentinel's nobody waits: the header, the field, which is a hit, then the steps of a Direct at the Link.
func TestClaimedAndAway(t *testing.T) {
	l := append(accesses(), writing(sentinel())...)
	for _, mode := range highModes() {
		for _, v := range append(values(), sentinel()) {
			for _, r := range l {
				l := lookAt(t, madeAway(t, api.TagClaimed, v), r, mode)
				l.Step(watch.Load(base), false)
				l.Step(watch.Load(base+1), true)
				l.Direct(copied, r, fixes(mode))
			}
		}
	}
}

// P14.1: all bits of the field are held against what was found; if one is another one by then that step is no hit, and the field is read once more, not the header: it goes on by what the field has then.
func TestClaimedFieldThatChanges(t *testing.T) {
	for bit := range 64 {
		for op := api.Write; op <= api.Swap; op++ {
			r := api.Req{Op: op, At: base, Exp: scalar(5), New: scalar(7)}
			l := lookAt(t, madeClaimed(t, scalar(5)), r, api.ModeCopy)
			l.Step(watch.Load(base), false)
			l.Step(watch.Load(base+1), true)
			l.Stored(base+1, watch.Field(scalar(5))^1<<bit)
			l.Fails(base + 1)
			l.claimed(r, api.ModeCopy, copied)
		}
	}
}

// P14.1: that may be so again and again, and end with each thing that a field may have, the sentinel too.
func TestClaimedFieldThatChangesAgain(t *testing.T) {
	for _, mode := range []int{api.ModePrep, api.ModeCopy} {
		for turns := 1; turns < 5; turns++ {
			for _, v := range append(values(), sentinel()) {
				for _, to := range []api.Val{scalar(5), ref(old), sentinel()} {
					for op := api.Write; op <= api.Swap; op++ {
						m := madeClaimed(t, scalar(5))
						m.Store(copied+1, watch.Field(to))
						r := api.Req{Op: op, At: base, Exp: scalar(5), New: ref(there)}
						l := lookAt(t, m, r, mode)
						l.Step(watch.Load(base), false)
						for range turns {
							l.Stored(base+1, watch.Field(scalar(5)))
							l.Step(watch.Load(base+1), true)
							l.Stored(base+1, watch.Field(v)^1<<60)
							l.Fails(base + 1)
						}
						l.Stored(base+1, watch.Field(v))
						l.claimed(r, mode, copied)
					}
				}
			}
		}
	}
}

// P14.1: the header is asked once: neither its tag, nor its Link, nor its Count is asked behind the step 1.
func TestHeaderIsAskedOnce(t *testing.T) {
	for tag := range 8 {
		for count := range 4 {
			r := api.Req{Op: api.Write, At: base, New: scalar(7)}
			for _, v := range []api.Val{scalar(5), sentinel()} {
				l := lookAt(t, madeClaimed(t, v), r, api.ModeCopy)
				l.Step(watch.Load(base), false)
				l.Stored(base, watch.Tagged(0, count, 1, tag, there))
				l.claimed(r, api.ModeCopy, copied)
			}
			l := lookAt(t, madeClaimed(t, scalar(5)), r, api.ModeCopy)
			l.Step(watch.Load(base), false)
			l.Step(watch.Load(base+1), true)
			l.Stored(base, watch.Tagged(0, count, 1, tag, there))
			l.Stored(base+1, watch.Field(sentinel()))
			l.Fails(base + 1)
			l.claimed(r, api.ModeCopy, copied)
		}
		for first := range 8 {
			r := api.Req{Op: api.Swap, At: base, Exp: scalar(5), New: scalar(7)}
			if first == api.TagClaimed {
				continue
			}
			m := made(t, header(first, copied), scalar(5))
			m.Store(copied+1, watch.Field(scalar(5)))
			l := lookAt(t, m, r, api.ModeCopy)
			l.Step(watch.Load(base), false)
			at := l.Home(base)
			l.Stored(base, watch.Tagged(0, 0, 1, tag, there))
			l.Direct(at, r, false)
		}
	}
}

// P14.1: what a field had ahead of the step 3 is not told, nor what it has behind it.
func TestFieldAtItsStep(t *testing.T) {
	l := lookAt(t, madeClaimed(t, scalar(5)), api.Req{Op: api.Read, At: base}, api.ModeCopy)
	l.Step(watch.Load(base), false)
	l.Stored(base+1, watch.Field(scalar(6)))
	l.Last(watch.Load(base+1), true, api.Out{V: scalar(6)})
	l.Stored(base+1, watch.Field(sentinel()))
	l.Told(true, api.Out{V: scalar(6)})

	l = lookAt(t, madeAway(t, api.TagClaimed, scalar(5)), api.Req{Op: api.Read, At: base}, api.ModeCopy)
	l.Step(watch.Load(base), false)
	l.Step(watch.Load(base+1), true)
	l.Stored(base+1, watch.Field(scalar(6)))
	l.Stored(copied+1, watch.Field(scalar(7)))
	l.Last(watch.Load(copied+1), true, api.Out{V: scalar(7)})
}

// otherTags are those that are neither TagMoved nor TagClaimed; the last one is TagStays.
func otherTags() []int { return []int{api.TagNone, api.TagTagged, api.TagWide, 6, 7, api.TagStays} }

// P14.1: of one with another tag, the header, then the steps of a Direct at r.At, if it does not lay the sentinel down: a field that has the sentinel is there, too.
func TestOtherTags(t *testing.T) {
	for _, tag := range otherTags() {
		for _, mode := range []int{5, 7, 8, 9} {
			for _, v := range append(values(), sentinel()) {
				for _, r := range accesses() {
					l := lookAt(t, made(t, header(tag, copied), v), r, mode)
					l.Step(watch.Load(base), false)
					l.Direct(base, r, fixes(mode))
				}
			}
		}
	}
}

// P14.1: who would lay the sentinel down asks the table ahead of that, unless the tag is TagStays, and has to wait, if the block is emptied: ErrBusy, no hit, and nothing was done, also by a Swap that expects something else.
func TestSentinelOfOtherTags(t *testing.T) {
	for _, tag := range otherTags() {
		for _, mode := range []int{5, 7, 8, 9} {
			for _, v := range append(values(), sentinel()) {
				for _, r := range writing(sentinel()) {
					for state := range 4 {
						m := made(t, header(tag, copied), v)
						m.Store(11, watch.Block(state, 1, 1, 5))
						l := lookAt(t, m, r, mode)
						l.Step(watch.Load(base), false)
						switch {
						case tag == api.TagStays:
							l.Direct(base, r, fixes(mode))
						case state == api.BlockEvac:
							l.waits(11, false)
						default:
							l.Step(watch.Load(11), false)
							l.Direct(base, r, fixes(mode))
						}
					}
				}
			}
		}
	}
}

// P14.1: of the table the State alone is asked, as it is at the step 2; then neither that nor the header is asked any more.
func TestSentinelAndTheTable(t *testing.T) {
	r := api.Req{Op: api.Swap, At: base, Exp: scalar(5), New: sentinel()}
	for bits := range uint64(1 << 12) {
		m := made(t, header(api.TagNone, 0), scalar(5))
		m.Store(11, bits|1<<40)
		l := lookAt(t, m, r, api.ModeCopy)
		l.Step(watch.Load(base), false)
		if bits%4 == api.BlockEvac {
			l.waits(11, false)
			continue
		}
		l.Step(watch.Load(11), false)
		l.Stored(11, watch.Block(api.BlockEvac, 0, 0, 0))
		l.Stored(base, header(api.TagClaimed, copied))
		l.Direct(base, r, false)
	}
	l := lookAt(t, made(t, header(api.TagNone, 0), scalar(5)), r, api.ModeCopy)
	l.Step(watch.Load(base), false)
	l.Stored(11, watch.Block(api.BlockUsed, 0, 0, 0))
	l.Step(watch.Load(11), false)
	l.Direct(base, r, false)
}

// P14.1: it is the entry of that block that is asked, of each address of it; of an address of none none is.
func TestSentinelAndBlocks(t *testing.T) {
	for at := 13; at < size-3; at++ {
		for evac := range 2 {
			m := watch.Full(t, size)
			m.Store(11+evac, watch.Block(api.BlockEvac, 0, 0, 0))
			m.Store(12-evac, watch.Block(api.BlockUsed, 0, 0, 0))
			m.Store(at, watch.Object(0, 3, 0))
			r := api.Req{Op: api.Write, At: at, Field: 2, New: sentinel()}
			l := lookAt(t, m, r, api.ModeFix)
			l.Step(watch.Load(at), false)
			block := (at - 32) / 32
			switch {
			case at < 32 || at >= 96:
				l.Direct(at, r, true)
			case block == evac:
				l.waits(11+block, false)
			default:
				l.Step(watch.Load(11+block), false)
				l.Direct(at, r, true)
			}
		}
	}
}

// P14.1: the sentinel is a scalar, whatever its number: what has another kind, or another number, is not.
func TestSentinels(t *testing.T) {
	for _, n := range []int{0, 1, 5, alpha, 1 << 12, api.MaxScalar, 1<<61 - 1} {
		for kind := range 4 {
			for d := range 2 {
				w := api.Val{Kind: kind, N: n ^ d}
				is := kind == api.Scalar && d == 0
				m := madeClaimed(t, w)
				m.Store(copied+1, watch.Field(scalar(77)))
				e := api.Env{Mode: api.ModeCopy, Alpha: n}
				x := New(planned(t), api.Req{Op: api.Read, At: base}, e)
				watch.Run(t, x, m)
				if got := x.Result(); is != (got == api.Out{V: scalar(77)}) || !is && got != (api.Out{V: w}) {
					t.Errorf("the sentinel %d: %v is read as %v", n, w, got)
				}
				for _, tag := range []int{api.TagNone, api.TagClaimed} {
					m = made(t, header(tag, copied), api.Val{Kind: 3, N: 3})
					x = New(planned(t), api.Req{Op: api.Write, At: base, New: w}, e)
					watch.Run(t, x, m)
					if got := x.Result(); is != (got == api.Out{Code: api.ErrBusy}) || !is && got != (api.Out{}) {
						t.Errorf("the sentinel %d: who writes %v is told %v", n, w, got)
					}
				}
			}
		}
	}
}

// P14.1: of a sentinel that is no scalar of a field the word is the one that slot makes of it. What is to be laid down is held against the sentinel as it is given, not by its word.
func TestSentinelThatNoFieldHas(t *testing.T) {
	for n, word := range map[int]uint64{-1: math.MaxUint64 - 7, 1 << 61: 0, 1<<61 + 2: 16, math.MinInt: 0} {
		m := madeClaimed(t, scalar(0))
		m.Store(base+1, word)
		m.Store(copied+1, watch.Field(scalar(77)))
		e := api.Env{Mode: api.ModeCopy, Alpha: n}
		x := New(planned(t), api.Req{Op: api.Read, At: base}, e)
		watch.Run(t, x, m)
		if got := x.Result(); got != (api.Out{V: scalar(77)}) {
			t.Errorf("the sentinel %d: a Read tells %v", n, got)
		}
		m = made(t, header(api.TagNone, 0), scalar(5))
		x = New(planned(t), api.Req{Op: api.Write, At: base, New: scalar(n)}, e)
		watch.Run(t, x, m)
		if got := x.Result(); got != (api.Out{Code: api.ErrBusy}) {
			t.Errorf("the sentinel %d: a Write of it tells %v", n, got)
		}
	}
	for _, w := range []api.Val{scalar(alpha + 1<<61), {Kind: 4, N: alpha}, {Kind: -4, N: alpha}} {
		l := lookAt(t, made(t, header(api.TagNone, 0), scalar(5)), api.Req{Op: api.Write, At: base, New: w}, api.ModeCopy)
		l.Step(watch.Load(base), false)
		l.Want[base+1] = watch.Field(sentinel())
		l.Last(watch.Store(base+1), true, api.Out{})
	}
}

// P14.1: of the header the Count, the Tag and the Link alone are asked.
func TestStateIsNotAsked(t *testing.T) {
	for bits := range uint64(1 << 12) {
		if watch.Count(bits) == 0 {
			continue
		}
		for _, rest := range []uint64{0, 1 << 24, 1 << 63} {
			r := api.Req{Op: api.Swap, At: base, Exp: scalar(5), New: scalar(7)}
			m := made(t, bits+copied<<12+rest, scalar(5))
			m.Store(copied+1, watch.Field(scalar(5)))
			l := lookAt(t, m, r, api.ModeCopy)
			l.Step(watch.Load(base), false)
			switch watch.Tag(bits) {
			case api.TagMoved:
				l.Direct(copied, r, false)
			case api.TagClaimed:
				l.claimed(r, api.ModeCopy, copied)
			default:
				l.Direct(base, r, false)
			}
		}
	}
}

// P14.1: of another Op a Direct has no steps: it is done when that would begin; of an object that is claimed the field is read ahead of that. Nothing is told, nobody waits, and the table is not asked.
func TestOtherOps(t *testing.T) {
	for _, op := range append(edges.Numbers(), 0, 4) {
		if op >= api.Read && op <= api.Swap {
			continue
		}
		for _, mode := range []int{0, 4, 5, 7, 8, 9} {
			for tag := range 8 {
				for _, v := range []api.Val{scalar(5), sentinel()} {
					r := api.Req{Op: op, At: base, Exp: v, New: sentinel()}
					l := lookAt(t, made(t, header(tag, copied), v), r, mode)
					if tag == api.TagClaimed && mode >= api.ModePrep {
						l.Step(watch.Load(base), false)
						l.Last(watch.Load(base+1), true, api.Out{})
						continue
					}
					l.Last(watch.Load(base), false, api.Out{})
				}
			}
		}
	}
}

// P14.1, P14.2: alone, in a mode in which nothing is shaded, each access is done in a few steps, each of them one access, none a trap; it has the result that it must have, and what it wrote is where the field is.
func TestAlone(t *testing.T) {
	for _, mode := range []int{0, 4, 5, 6, 7, 8, 9} {
		for tag := range 8 {
			for _, v := range append(values(), sentinel()) {
				made := made(t, header(tag, copied), v)
				made.Store(copied+1, watch.Field(v))
				for _, r := range append(accesses(), writing(sentinel())...) {
					m := made.Clone()
					count := m.Count()
					x := New(planned(t), r, env(mode))
					n := watch.Run(t, x, m)
					if n < 2 || n > 7 || m.Count() != count+n || m.Traps() != 0 {
						t.Errorf("%+v, tag %d, mode %d: %d steps, %d accesses, %d traps", r, tag, mode, n, m.Count()-count, m.Traps())
					}
					checkAlone(t, m, alone{tag, mode, v, r}, x.Result())
				}
			}
		}
	}
}

// alone is an access of base, with that tag, in that mode, whose field has v; so has that of its copy.
type alone struct {
	tag, mode int
	v         api.Val
	r         api.Req
}

// place is where the object is by its field.
func (a alone) place() int {
	if a.mode >= api.ModePrep && (a.tag == api.TagMoved || a.tag == api.TagClaimed && a.v == sentinel()) {
		return copied
	}
	return base
}

// waits tells whether it has to wait, if it writes.
func (a alone) waits() bool {
	if a.mode < api.ModePrep || a.place() == copied || a.tag == api.TagStays {
		return false
	}
	return a.r.New == sentinel() || a.tag == api.TagClaimed && closes(a.mode)
}

// checkAlone asks what came of it.
func checkAlone(t *testing.T, m *mem.Memory, a alone, got api.Out) {
	t.Helper()
	home := func(v api.Val) api.Val {
		if watch.Refers(v) {
			v.N = watch.Home(watch.Word(m, v.N), v.N)
		}
		return v
	}
	stays := a.tag == api.TagClaimed && a.place() == base
	has, out := a.v, api.Out{}
	expected := a.v == a.r.Exp || a.mode >= api.ModePrep && !stays && home(a.v) == home(a.r.Exp)
	switch {
	case a.r.Op == api.Read:
		out.V = a.v
		if fixes(a.mode) && !stays {
			out.V = home(a.v)
		}
	case a.r.Op == api.Swap && stays && !expected:
	case a.waits():
		out.Code = api.ErrBusy
	case a.r.Op == api.Write || expected:
		has, out.Yes = a.r.New, a.r.Op == api.Swap
	}
	if got != out {
		t.Errorf("%+v: Result is %v, want %v", a, got, out)
	}
	watch.CheckWord(t, m, base, header(a.tag, copied))
	watch.CheckWord(t, m, a.place()+1, watch.Field(has))
	watch.CheckWord(t, m, base+copied-a.place()+1, watch.Field(a.v))
}

// P14.1: the chapter's examples.
func TestExamples(t *testing.T) {
	p, e := plan.New(1, 4)
	if e != api.OK {
		t.Fatalf("plan.New: error %d", e)
	}
	for _, x := range []struct {
		at, to   api.Val
		r        api.Req
		steps    int
		out      api.Out
		has, had api.Val
	}{
		{scalar(5), scalar(0), api.Req{Op: api.Read, At: 96}, 2, api.Out{V: scalar(5)}, scalar(5), scalar(0)},
		{scalar(9), scalar(6), api.Req{Op: api.Write, At: 96, New: scalar(7)}, 3, api.Out{}, scalar(9), scalar(7)},
		{scalar(5), scalar(0), api.Req{Op: api.Write, At: 96, New: scalar(9)}, 2, api.Out{Code: api.ErrBusy}, scalar(5), scalar(0)},
	} {
		m, _ := mem.New(160)
		m.Store(96, watch.Tagged(0, 1, 0, api.TagClaimed, 112))
		m.Store(97, watch.Field(x.at))
		m.Store(113, watch.Field(x.to))
		a := New(p, x.r, api.Env{Mode: 6, Alpha: 9})
		if n := watch.Run(t, a, m); n != x.steps || a.Result() != x.out {
			t.Errorf("%+v: %d steps, %v", x.r, n, a.Result())
		}
		watch.CheckWord(t, m, 97, watch.Field(x.has))
		watch.CheckWord(t, m, 113, watch.Field(x.had))
	}
}

// R6: a new Access does no access, and keeps no more of what it is given than its value.
func TestNewDoesNothing(t *testing.T) {
	for _, mode := range []int{0, 6} {
		m := madeClaimed(t, scalar(5))
		count := m.Count()
		p, r, e := planned(t), api.Req{Op: api.Read, At: base}, env(mode)
		x := New(p, r, e)
		p.Table, r.Op, r.Field, e.Mode, e.Alpha = 0, api.Write, 2, api.ModeFix, 5
		if m.Count() != count {
			t.Error("a new Access does an access")
		}
		l := look{watch.LookAt(t, m, x)}
		l.Step(watch.Load(base), false)
		l.Last(watch.Load(base+1), true, api.Out{V: scalar(5)})
	}
}

// R1: of an address that the memory does not have the header has no fields.
func TestWhatIsNotThere(t *testing.T) {
	for _, n := range edges.Numbers() {
		if n >= 0 && n < size {
			continue
		}
		for _, mode := range []int{0, 6} {
			m := madeClaimed(t, scalar(5))
			before, count := watch.Words(m), m.Count()
			x := New(planned(t), api.Req{Op: api.Write, At: n, New: sentinel()}, env(mode))
			if !x.Step(m) || x.Hit() || x.Result() != (api.Out{Code: api.ErrField}) || m.Count() != count+1 {
				t.Errorf("%d: %v, %d accesses", n, x.Result(), m.Count()-count)
			}
			watch.CheckDone(t, x, m)
			watch.CheckWords(t, m, before)
		}
	}
}

// R1: of a field, a Link, or a table that the memory does not have each step is still one access; what is not there has no State.
func TestFieldsThatAreNotThere(t *testing.T) {
	for _, tag := range []int{api.TagNone, api.TagMoved, api.TagClaimed, api.TagStays} {
		for op := api.Read; op <= api.Swap; op++ {
			for _, w := range []api.Val{scalar(7), sentinel()} {
				m := made(t, header(0, 0), scalar(5))
				m.Store(size-1, watch.Tagged(0, 3, 0, tag, 4095))
				p := planned(t)
				p.Size, p.Table = 160, math.MaxInt-9
				x := New(p, api.Req{Op: op, At: size - 1, Field: 2, Exp: scalar(5), New: w}, env(6))
				before, done := watch.Words(m), false
				for n := 1; n <= 9 && !done; n++ {
					count := m.Count()
					if done = x.Step(m); m.Count() != count+1 {
						t.Errorf("Op %d, tag %d: the step %d does %d accesses", op, tag, n, m.Count()-count)
					}
				}
				again := tag == api.TagClaimed && op == api.Write && w != sentinel() // its CAS is never done
				if done == again {
					t.Errorf("Op %d, tag %d, New %v: done is %t", op, tag, w, done)
				}
				watch.CheckWords(t, m, before)
			}
		}
	}
}

// R1: of a plan that there is not each step is still one access.
func TestPlansThatAreNotThere(t *testing.T) {
	for _, n := range edges.Numbers() {
		for _, p := range []api.Plan{{}, {Heap: n, Size: math.MaxInt}, {Heap: n, Size: n}, {Size: n}, {Table: n, Size: size}, {Threads: n, Blocks: n, Table: n, Heap: n, Size: n}} {
			m := made(t, header(api.TagNone, 0), scalar(5))
			count := m.Count()
			x := New(p, api.Req{Op: api.Write, At: base, New: sentinel()}, env(6))
			k := watch.Run(t, x, m)
			if k < 2 || k > 3 || m.Count() != count+k {
				t.Errorf("%+v: %d steps, %d accesses", p, k, m.Count()-count)
			}
		}
	}
}

// R1: an Access that nobody made is done, with nothing.
func TestMadeByNobody(t *testing.T) {
	watch.AtOnce(t, madeClaimed(t, ref(there)), &Access{}, api.Out{})
}

// copyOf is a copy of an Access.
func copyOf(x watch.Accessor) watch.Accessor {
	y := *x.(*Access)
	return &y
}

// A copy of an Access goes its own way, at each step of it.
func TestCopiesGoTheirOwnWay(t *testing.T) {
	for tag := range 6 {
		for op := api.Read; op <= api.Swap; op++ {
			for _, mode := range []int{0, 2, 6, 8} {
				for _, v := range []api.Val{ref(old), sentinel()} {
					for _, w := range []api.Val{ref(there), sentinel()} {
						made := made(t, header(tag, copied), v)
						made.Store(11, watch.Block(api.BlockUsed, 0, 0, 0))
						made.Store(copied+1, watch.Field(ref(old)))
						r := api.Req{Op: op, At: base, Exp: ref(old), New: w}
						begin := func() watch.Accessor { return New(planned(t), r, env(mode)) }
						watch.CheckCopies(t, made, begin, copyOf)
					}
				}
			}
		}
	}
}
