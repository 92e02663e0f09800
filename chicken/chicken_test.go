package chicken

import (
	"math"
	"testing"

	"flit/api"
	"flit/direct"
	"flit/edges"
	"flit/mem"
	"flit/watch"
)

// P13.1: of the address 0 it is done at once, with ErrNil and no access, whatever else is wrong; in a mode below ModePrep too.
func TestNil(t *testing.T) {
	for op := range 6 {
		for _, field := range []int{0, 1, -1, 7, 8, math.MaxInt, math.MinInt} {
			for _, mode := range append(lowModes(), highModes()...) {
				m := made(t, header(0, 0), ref(there))
				m.Store(0, header(api.TagTagged, copied))
				r := api.Req{Op: op, Field: field, Exp: ref(there), New: ref(now)}
				watch.AtOnce(t, m, New(r, api.Env{Mode: mode, Mark: 1}), api.Out{Code: api.ErrNil})
			}
		}
	}
}

// P13.1: of a field below 0, and of one not below the Count, the first step is the last one, with ErrField and no hit, whatever the Op, the mode and the tag.
func TestNoField(t *testing.T) {
	for count := range 8 {
		for _, field := range []int{-1, -8, math.MinInt, count, count + 1, 8, math.MaxInt} {
			for tag := range 8 {
				for op := range 6 {
					for _, mode := range []int{0, 4, 5, 6, 7, 8, 9} {
						m := made(t, watch.Tagged(1, count, 1, tag, copied), ref(there))
						r := api.Req{Op: op, At: base, Field: field, Exp: ref(there), New: ref(now)}
						l := lookAt(t, m, r, mode)
						l.Last(watch.Load(base), false, api.Out{Code: api.ErrField})
					}
				}
			}
		}
	}
}

// P13.1: each field below the Count is one, of each tag: it stands behind the header, at r.At, or, if the object was moved, at its Link.
func TestEachField(t *testing.T) {
	const wide, to = 8, 16
	for count := 1; count <= 7; count++ {
		for field := range count {
			for tag := range 8 {
				for op := api.Read; op <= api.Swap; op++ {
					m := made(t, header(0, 0), scalar(0))
					m.Store(wide, watch.Tagged(1, count, 0, tag, to))
					at := watch.Home(watch.Word(m, wide), wide)
					m.Store(at+1+field, watch.Field(scalar(77)))
					before := watch.Words(m)
					x := New(api.Req{Op: op, At: wide, Field: field, Exp: scalar(77), New: scalar(78)}, api.Env{Mode: 6})
					watch.Run(t, x, m)
					want := api.Out{Yes: op == api.Swap}
					if op == api.Read {
						want.V = scalar(77)
					} else {
						before[at+1+field] = watch.Field(scalar(78))
						if tag == api.TagTagged {
							before[wide] = watch.Object(1, count, 0)
						}
					}
					if x.Result() != want || m.Traps() != 0 {
						t.Errorf("Op %d of the field %d of %d, tag %d: %v", op, field, count, tag, x.Result())
					}
					watch.CheckWords(t, m, before)
				}
			}
		}
	}
}

// P13.1: in a mode below ModePrep it does what a Plain does, step by step, whatever the tag: nothing is asked of that.
func TestBelowPrep(t *testing.T) {
	for _, mode := range lowModes() {
		for tag := range 8 {
			for _, v := range values() {
				for _, r := range append(accesses(v), api.Req{At: base}, api.Req{Op: 4, At: base, New: ref(there)}) {
					for mark := range 2 {
						e := api.Env{Mode: mode, Mark: mark, Alpha: 5}
						watch.Alike(t, made(t, header(tag, copied), v), New(r, e), direct.NewPlain(r, e))
					}
				}
			}
		}
	}
}

// P13.1: so a tagged object keeps its tag, and what was moved is accessed where it stood, in the last mode below ModePrep; from ModePrep on not.
func TestFirstModeOfMoves(t *testing.T) {
	r := api.Req{Op: api.Write, At: base, New: scalar(7)}
	l := lookAt(t, made(t, header(api.TagTagged, copied), scalar(5)), r, api.ModeSweep)
	l.Step(watch.Load(base), false)
	l.Stores(base+1, scalar(7))
	l = lookAt(t, madeMoved(t, scalar(5)), r, api.ModeSweep)
	l.Step(watch.Load(base), false)
	l.Stores(base+1, scalar(7))

	l = lookAt(t, made(t, header(api.TagTagged, copied), scalar(5)), r, api.ModePrep)
	l.Step(watch.Load(base), false)
	l.takes()
	l.Stores(base+1, scalar(7))
	l = lookAt(t, madeMoved(t, scalar(5)), r, api.ModePrep)
	l.Step(watch.Load(base), false)
	l.Stores(copied+1, scalar(7))
}

// P13.1: of an object that was moved, the header, then the steps of a Direct at its Link: with Canon, with Fix just in ModeFix, and never with Shade.
func TestMoved(t *testing.T) {
	for _, mode := range highModes() {
		for _, v := range values() {
			for _, r := range accesses(v) {
				l := lookAt(t, madeMoved(t, v), r, mode)
				l.Step(watch.Load(base), false)
				l.Direct(copied, r, fixes(mode))
			}
		}
	}
}

// P13.1: of one with another tag, likewise at r.At.
func TestOtherTags(t *testing.T) {
	for _, tag := range []int{api.TagNone, api.TagWide, api.TagClaimed, api.TagStays, 6, 7} {
		for _, mode := range []int{5, 6, 7, 8, 9} {
			for _, v := range values() {
				for _, r := range accesses(v) {
					l := lookAt(t, made(t, header(tag, copied), v), r, mode)
					l.Step(watch.Load(base), false)
					l.Direct(base, r, fixes(mode))
				}
			}
		}
	}
}

// P13.1: a Read of a tagged one: the header, the field, which is a hit, and the header once more; it tells what the field had, also in ModeFix. The tag stays.
func TestReadOfTagged(t *testing.T) {
	for _, mode := range highModes() {
		for _, v := range values() {
			for _, bit := range []uint64{0, frozen} {
				m := made(t, header(api.TagTagged, copied), v)
				m.Store(base+1, watch.Field(v)|bit)
				l := lookAt(t, m, api.Req{Op: api.Read, At: base, New: ref(there)}, mode)
				l.Step(watch.Load(base), false)
				l.Step(watch.Load(base+1), true)
				l.Last(watch.Load(base), false, api.Out{V: v})
			}
		}
	}
}

// P13.1: if the header tells by then that the object was moved, to wherever that is, the Read goes on there: what the field had is not told. Whatever else the header tells, its Count too, is not asked.
func TestReadOfTaggedThatIsMoved(t *testing.T) {
	for _, early := range []bool{true, false} {
		for _, mode := range highModes() {
			for bits := range 1 << 12 {
				m := made(t, header(api.TagTagged, copied), scalar(5))
				to := []int{copied, there}[bits%2]
				v := values()[bits%len(values())]
				m.Store(to+1, watch.Field(v))
				r := api.Req{Op: api.Read, At: base}
				l := lookAt(t, m, r, mode)
				then := uint64(bits) + uint64(to)<<12
				l.Step(watch.Load(base), false)
				if early {
					l.Stored(base, then)
				}
				l.Step(watch.Load(base+1), true)
				l.Stored(base, then)
				if bits>>9 != api.TagMoved {
					l.Last(watch.Load(base), false, api.Out{V: scalar(5)})
					continue
				}
				l.Step(watch.Load(base), false)
				l.Direct(to, r, fixes(mode))
			}
		}
	}
}

// P13.1: what counts is the field as it is at the step 2, and at the copy, if the Read goes on there, as it is then.
func TestReadOfTaggedAtItsSteps(t *testing.T) {
	r := api.Req{Op: api.Read, At: base}
	l := lookAt(t, made(t, header(api.TagTagged, copied), scalar(5)), r, api.ModeCopy)
	l.Step(watch.Load(base), false)
	l.Stored(base+1, watch.Field(scalar(6)))
	l.Step(watch.Load(base+1), true)
	l.Stored(base+1, watch.Field(scalar(7)))
	l.Last(watch.Load(base), false, api.Out{V: scalar(6)})
	l.Stored(base, header(api.TagMoved, copied))
	l.Told(false, api.Out{V: scalar(6)})

	l = lookAt(t, made(t, header(api.TagTagged, copied), scalar(5)), r, api.ModeFix)
	l.Step(watch.Load(base), false)
	l.Step(watch.Load(base+1), true)
	l.Stored(base, header(api.TagMoved, copied))
	l.Step(watch.Load(base), false)
	l.Stored(copied+1, watch.Field(ref(base)))
	l.Stored(base, header(api.TagMoved, there)) // the Link that counts was found ahead of that
	l.Step(watch.Load(copied+1), true)
	l.Last(watch.Load(base), false, api.Out{V: ref(there)})
}

// P13.1: a Write and a Swap of a tagged one: the header, the CAS that takes the tag and the Link away, then the steps of a Direct at r.At. Neither of the first two is a hit.
func TestWriteOfTagged(t *testing.T) {
	for _, mode := range highModes() {
		for _, v := range values() {
			for _, r := range accesses(v) {
				if r.Op == api.Read {
					continue
				}
				l := lookAt(t, made(t, header(api.TagTagged, copied), v), r, mode)
				l.Step(watch.Load(base), false)
				l.takes()
				l.Direct(base, r, fixes(mode))
			}
		}
	}
}

// P13.1: the tag and the Link alone are taken away; bits that are no header's are not kept. What the object is is not asked.
func TestWhatIsTaken(t *testing.T) {
	for bits := range 1 << 9 {
		if bits>>4%8 == 0 {
			continue
		}
		for _, rest := range []uint64{0, copied << 12, 4095 << 12, math.MaxUint64 &^ (1<<12 - 1)} {
			h := uint64(bits) + api.TagTagged<<9 + rest
			l := lookAt(t, made(t, h, scalar(5)), api.Req{Op: api.Write, At: base, New: scalar(7)}, api.ModeCopy)
			l.Step(watch.Load(base), false)
			l.Want[base] = uint64(bits)
			l.Step(watch.CAS(base, true), false)
			l.Stores(base+1, scalar(7))
		}
	}
}

// P13.1: that of a moved one, and of one with another tag, goes by these alone, too: its State is not asked.
func TestStateIsNotAsked(t *testing.T) {
	for bits := range 1 << 12 {
		tag := bits >> 9
		if bits>>4%8 == 0 || tag == api.TagTagged {
			continue
		}
		at := base
		if tag == api.TagMoved {
			at = copied
		}
		r := api.Req{Op: api.Swap, At: base, Exp: scalar(5), New: scalar(7)}
		m := made(t, uint64(bits)+copied<<12, scalar(5))
		m.Store(copied+1, watch.Field(scalar(5)))
		l := lookAt(t, m, r, api.ModeClose)
		l.Step(watch.Load(base), false)
		l.Direct(at, r, false)
	}
}

// P13.1: all bits of the header are held against what was found; if one is another one by then the Access goes on at its step 1, by what the header tells then.
func TestTagThatIsTakenByAnother(t *testing.T) {
	for bit := range 64 {
		for _, op := range []int{api.Write, api.Swap} {
			h := header(api.TagTagged, copied)
			m := made(t, h, scalar(5))
			r := api.Req{Op: op, At: base, Exp: scalar(5), New: scalar(7)}
			l := lookAt(t, m, r, api.ModeCopy)
			l.Step(watch.Load(base), false)
			then := h ^ 1<<bit
			l.Stored(base, then)
			l.Fails(base)
			l.Step(watch.Load(base), false)
			if watch.Tag(then) == api.TagTagged {
				l.takes()
			}
			l.Direct(base, r, false)
		}
	}
}

// P13.1: by then it may have any tag, any Link, and no such field any more; that may be so again and again.
func TestGoesOnByWhatIsFound(t *testing.T) {
	for _, mode := range highModes() {
		for tag := range 8 {
			for turns := 1; turns < 5; turns++ {
				for count := range 3 {
					for _, r := range []api.Req{
						{Op: api.Write, At: base, Field: 1, New: ref(there)},
						{Op: api.Swap, At: base, Field: 1, Exp: ref(old), New: ref(there)},
						{Op: api.Swap, At: base, Field: 1, Exp: scalar(5), New: scalar(6)},
					} {
						m := made(t, header(api.TagTagged, copied), scalar(1))
						m.Store(base+2, watch.Field(scalar(5)))
						m.Store(copied+2, watch.Field(ref(elder)))
						l := lookAt(t, m, r, mode)
						for k := range turns {
							l.Step(watch.Load(base), false)
							l.Stored(base, watch.Tagged(0, 3, k%2, api.TagTagged, there+k))
							l.Fails(base)
						}
						l.Stored(base, watch.Tagged(0, count, 1, tag, copied))
						l.goesOn(r, mode)
					}
				}
			}
		}
	}
}

// goesOn is all steps behind one that goes on at the step 1.
func (l look) goesOn(r api.Req, mode int) {
	l.T.Helper()
	w := l.Want[base]
	if r.Field >= watch.Count(w) {
		l.Last(watch.Load(base), false, api.Out{Code: api.ErrField})
		return
	}
	l.Step(watch.Load(base), false)
	switch watch.Tag(w) {
	case api.TagTagged:
		l.takes()
		l.Direct(base, r, fixes(mode))
	case api.TagMoved:
		l.Direct(copied, r, fixes(mode))
	default:
		l.Direct(base, r, fixes(mode))
	}
}

// P13.1: behind the CAS that took the tag, and behind the header of another one, that is not asked any more: whoever tags, moves or frees the object then.
func TestHeaderIsAskedOnce(t *testing.T) {
	for tag := range 8 {
		r := api.Req{Op: api.Swap, At: base, Exp: scalar(5), New: scalar(7)}
		m := made(t, header(tag, copied), scalar(5))
		m.Store(copied+1, watch.Field(scalar(5)))
		l := lookAt(t, m, r, api.ModeCopy)
		l.Step(watch.Load(base), false)
		if tag == api.TagTagged {
			l.takes()
		}
		at := l.Home(base)
		for k := range 3 {
			l.Stored(base, watch.Tagged(0, 0, 1, k, there))
			l.Step(watch.Load(at+1), true)
			l.Stored(at+1, watch.Field(scalar(6)))
			l.Fails(at + 1)
			l.Stored(at+1, watch.Field(scalar(5)))
		}
		l.Stored(base, 0)
		l.Direct(at, r, false)
	}
}

// P13.1: of another Op a Direct has no steps: it is done when that would begin, with nothing told; a tag is taken away ahead of that.
func TestOtherOps(t *testing.T) {
	for _, op := range append(edges.Numbers(), 0, 4) {
		if op >= api.Read && op <= api.Swap {
			continue
		}
		for _, mode := range []int{0, 4, 5, 8, 9} {
			for tag := range 8 {
				l := lookAt(t, made(t, header(tag, copied), ref(there)), api.Req{Op: op, At: base, Exp: ref(there), New: ref(now)}, mode)
				if tag != api.TagTagged || mode < api.ModePrep {
					l.Last(watch.Load(base), false, api.Out{})
					continue
				}
				l.Step(watch.Load(base), false)
				l.Want[base] = header(api.TagNone, 0)
				l.Last(watch.CAS(base, true), false, api.Out{})
			}
		}
	}
}

// P13.2: alone, in a mode in which nothing is shaded, each access is done in at most 12 steps, each of them one access, none a trap; and it has the result that it must have.
func TestAlone(t *testing.T) {
	for _, mode := range []int{0, 4, 5, 6, 7, 8, 9, -1, math.MaxInt} {
		for tag := range 8 {
			for _, v := range values() {
				made := made(t, header(tag, copied), v)
				made.Store(copied+1, watch.Field(v))
				for _, r := range accesses(v) {
					m := made.Clone()
					count := m.Count()
					x := New(r, api.Env{Mode: mode, Mark: 1})
					n := watch.Run(t, x, m)
					if n < 2 || n > 12 || m.Count() != count+n || m.Traps() != 0 {
						t.Errorf("%+v, tag %d, mode %d: %d steps, %d accesses, %d traps", r, tag, mode, n, m.Count()-count, m.Traps())
					}
					checkAlone(t, m, tag, v, r, mode, x.Result())
				}
			}
		}
	}
}

// checkAlone asks what came of an access of a field that had v, at the object and at its copy.
func checkAlone(t *testing.T, m *mem.Memory, tag int, v api.Val, r api.Req, mode int, got api.Out) {
	t.Helper()
	moves := mode >= api.ModePrep
	home := func(v api.Val) api.Val {
		if watch.Refers(v) {
			v.N = watch.Home(watch.Word(m, v.N), v.N)
		}
		return v
	}
	has, out := v, api.Out{}
	switch r.Op {
	case api.Read:
		out.V = v
		if fixes(mode) && tag != api.TagTagged {
			out.V = home(v)
		}
	case api.Write:
		has = r.New
	case api.Swap:
		if v == r.Exp || moves && home(v) == home(r.Exp) {
			has, out.Yes = r.New, true
		}
	}
	if got != out {
		t.Errorf("%v: %+v, tag %d, mode %d: Result is %v, want %v", v, r, tag, mode, got, out)
	}
	want, at := header(tag, copied), base
	if moves && tag == api.TagTagged && r.Op != api.Read {
		want = header(api.TagNone, 0)
	}
	if moves && tag == api.TagMoved {
		at = copied
	}
	watch.CheckWord(t, m, base, want)
	watch.CheckWord(t, m, at+1, watch.Field(has))
	watch.CheckWord(t, m, base+copied-at+1, watch.Field(v))
}

// P13.1: the chapter's examples.
func TestExamples(t *testing.T) {
	example := func() *mem.Memory {
		m, _ := mem.New(160)
		m.Store(96, watch.Tagged(0, 1, 0, api.TagTagged, 112))
		m.Store(97, watch.Field(scalar(5)))
		return m
	}
	m := example()
	x := New(api.Req{Op: api.Write, At: 96, New: scalar(7)}, api.Env{Mode: 6})
	if x.Step(m) || x.Step(m) || !x.Step(m) {
		t.Error("a Write is not done with three steps")
	}
	watch.CheckWord(t, m, 96, watch.Object(0, 1, 0))
	watch.CheckWord(t, m, 97, watch.Field(scalar(7)))

	m = example()
	x = New(api.Req{Op: api.Read, At: 96}, api.Env{Mode: 6})
	if x.Step(m) || x.Step(m) || !x.Step(m) || x.Result() != (api.Out{V: scalar(5)}) {
		t.Errorf("a Read is not done with three steps, or tells %v", x.Result())
	}
}

// R6: a new Access does no access, and keeps no more of what it is given than its value.
func TestNewDoesNothing(t *testing.T) {
	for _, mode := range []int{0, 6} {
		m := made(t, header(api.TagNone, 0), scalar(5))
		count := m.Count()
		r, e := api.Req{Op: api.Read, At: base}, api.Env{Mode: mode}
		x := New(r, e)
		r.Op, r.Field, e.Mode = api.Write, 2, api.ModeFix
		if m.Count() != count {
			t.Error("a new Access does an access")
		}
		l := look{watch.LookAt(t, m, x)}
		l.Step(watch.Load(base), false)
		l.Last(watch.Load(base+1), true, api.Out{V: scalar(5)})
	}
}

// R1: of an address that the memory does not have the header has no fields.
func TestWhatIsNotThere(t *testing.T) {
	for _, n := range edges.Numbers() {
		if n >= 0 && n < size {
			continue
		}
		for _, mode := range []int{0, 6} {
			m := made(t, header(0, 0), scalar(5))
			before, count := watch.Words(m), m.Count()
			x := New(api.Req{Op: api.Write, At: n, New: scalar(7)}, api.Env{Mode: mode})
			if !x.Step(m) || x.Hit() || x.Result() != (api.Out{Code: api.ErrField}) || m.Count() != count+1 {
				t.Errorf("%d: %v, %d accesses", n, x.Result(), m.Count()-count)
			}
			watch.CheckDone(t, x, m)
			watch.CheckWords(t, m, before)
		}
	}
}

// R1: of a field, or of a Link, that the memory does not have each step is still one access.
func TestFieldsThatAreNotThere(t *testing.T) {
	for _, tag := range []int{api.TagNone, api.TagTagged, api.TagMoved} {
		for op := api.Read; op <= api.Swap; op++ {
			m := made(t, header(0, 0), scalar(5))
			m.Store(size-1, watch.Tagged(0, 3, 0, tag, 4095))
			count := m.Count()
			x := New(api.Req{Op: op, At: size - 1, Field: 2, Exp: scalar(5), New: scalar(7)}, api.Env{Mode: 6})
			n := watch.Run(t, x, m)
			if m.Count() != count+n || m.Traps() != 1 || x.Result() != (api.Out{}) {
				t.Errorf("Op %d, tag %d: %d steps, %d accesses, %v", op, tag, n, m.Count()-count, x.Result())
			}
		}
	}
}

// R1: an Access that nobody made is done, with nothing.
func TestMadeByNobody(t *testing.T) {
	watch.AtOnce(t, made(t, header(0, 0), ref(there)), &Access{}, api.Out{})
}

// copyOf is a copy of an Access.
func copyOf(x watch.Accessor) watch.Accessor {
	y := *x.(*Access)
	return &y
}

// A copy of an Access goes its own way, at each step of it: also if the Access has done the same steps already.
func TestCopiesGoTheirOwnWay(t *testing.T) {
	for tag := range 3 {
		for op := api.Read; op <= api.Swap; op++ {
			for _, mode := range []int{0, 2, 6, 8} {
				made := made(t, header(tag, copied), ref(old))
				made.Store(copied+1, watch.Field(ref(old)))
				r := api.Req{Op: op, At: base, Exp: ref(old), New: ref(there)}
				begin := func() watch.Accessor { return New(r, api.Env{Mode: mode, Mark: 1}) }
				watch.CheckCopies(t, made, begin, copyOf)
			}
		}
	}
}
