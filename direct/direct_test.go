package direct

import (
	"math"
	"testing"

	"flit/api"
	"flit/edges"
	"flit/mem"
	"flit/watch"
)

// P12.1: a Read without Fix is one step, a hit: it tells what the field has, whatever that is, and however else it is asked; no word changes.
func TestRead(t *testing.T) {
	for _, v := range values() {
		for _, h := range hows() {
			h.Fix = false
			m := made(t, v)
			r := api.Req{Op: api.Read, At: 7, Exp: v, New: ref(white)}
			l := lookAt(t, m, NewDirect(base, r, h))
			l.Last(watch.Load(base+1), true, api.Out{V: v})
		}
	}
}

// P12.1: with Fix so is that of a scalar, of nil, and of what is neither; of a reference there is a second step, no hit, which tells where the object is.
func TestReadFix(t *testing.T) {
	for _, v := range values() {
		for _, h := range hows() {
			h.Fix = true
			l := lookAt(t, made(t, v), NewDirect(base, api.Req{Op: api.Read}, h))
			if v.Kind != api.Ref || v.N == 0 {
				l.Last(watch.Load(base+1), true, api.Out{V: v})
				continue
			}
			l.Step(watch.Load(base+1), true)
			l.Last(watch.Load(v.N), false, api.Out{V: ref(homeOf(v.N))})
		}
	}
}

// P12.1: where the object is, is told by its header of each State and Tag; one that was moved to nought is nil.
func TestReadFixOfEachHeader(t *testing.T) {
	for bits := range 1 << 12 {
		for _, link := range []int{0, now, 4095} {
			m := made(t, ref(white))
			m.Store(white, uint64(bits+link<<12))
			l := lookAt(t, m, NewDirect(base, api.Req{Op: api.Read}, How{Fix: true}))
			want := white
			if bits%4 == api.CellObject && bits>>9 == api.TagMoved {
				want = link
			}
			watch.Run(t, l.X, m)
			l.Told(false, api.Out{V: ref(want)})
		}
	}
}

// P12.1: a word that is frozen has what it had.
func TestReadFrozen(t *testing.T) {
	for _, v := range values() {
		m := made(t, v)
		m.Store(base+1, watch.Field(v)|frozen)
		l := lookAt(t, m, NewDirect(base, api.Req{Op: api.Read}, How{}))
		l.Last(watch.Load(base+1), true, api.Out{V: v})
	}
}

// P12.1: what counts is the field at the step 1, and the header at the step 2.
func TestReadAtItsSteps(t *testing.T) {
	m := made(t, scalar(5))
	x := NewDirect(base, api.Req{Op: api.Read}, How{Fix: true})
	m.Store(base+1, watch.Field(ref(white)))
	l := lookAt(t, m, x)
	l.Step(watch.Load(base+1), true)
	l.Stored(base+1, watch.Field(scalar(6)))
	l.Stored(white, watch.Moved(0, 2, 0, now))
	l.Last(watch.Load(white), false, api.Out{V: ref(now)})
	l.Stored(white, watch.Moved(0, 2, 0, black))
	l.Told(false, api.Out{V: ref(now)})
}

// P12.1: the field of each access stands behind the header, at base, 1 and r.Field; r.At is not asked.
func TestFieldsOfEachBase(t *testing.T) {
	for _, b := range []int{0, 3, 32, base, size - 9} {
		for field := range 8 {
			for _, at := range []int{0, 4, base, -1} {
				m := made(t, scalar(0))
				f := b + 1 + field
				m.Store(f, watch.Field(scalar(77)))
				l := lookAt(t, m, NewDirect(b, api.Req{Op: api.Read, At: at, Field: field}, How{}))
				l.Last(watch.Load(f), true, api.Out{V: scalar(77)})
				l = lookAt(t, m, NewDirect(b, api.Req{Op: api.Write, At: at, Field: field, New: scalar(78)}, How{}))
				l.Stores(f, scalar(78))
				l = lookAt(t, m, NewDirect(b, api.Req{Op: api.Swap, At: at, Field: field, Exp: scalar(78), New: ref(4)}, How{}))
				l.Step(watch.Load(f), true)
				l.Swaps(f, ref(4))
			}
		}
	}
}

// P12.1: a Write without Shade is one step, a hit, whatever the field has.
func TestWrite(t *testing.T) {
	for _, v := range values() {
		for _, w := range values() {
			for _, h := range hows() {
				h.Shade = false
				l := lookAt(t, made(t, v), NewDirect(base, api.Req{Op: api.Write, Exp: ref(white), New: w}, h))
				l.Stores(base+1, w)
			}
		}
	}
}

// P12.1: with Shade the field is read, what it has is shaded, then New, each if it is a reference that is not nil; then it is stored, which alone is a hit.
func TestWriteShade(t *testing.T) {
	for _, v := range values() {
		for _, w := range values() {
			for _, h := range hows() {
				h.Shade = true
				l := lookAt(t, made(t, v), NewDirect(base, api.Req{Op: api.Write, Exp: ref(white), New: w}, h))
				l.Step(watch.Load(base+1), false)
				l.shaded(v, h)
				l.shaded(w, h)
				l.Stores(base+1, w)
			}
		}
	}
}

// P12.1: a frozen word is one to be shaded too, and what is stored is not frozen.
func TestWriteOfFrozen(t *testing.T) {
	for _, h := range []How{{}, {Shade: true, Mark: 1}} {
		m := made(t, scalar(0))
		m.Store(base+1, watch.Field(ref(white))|frozen)
		l := lookAt(t, m, NewDirect(base, api.Req{Op: api.Write, New: scalar(7)}, h))
		if h.Shade {
			l.Step(watch.Load(base+1), false)
			l.shaded(ref(white), h)
		}
		l.Stores(base+1, scalar(7))
	}
}

// P12.1: what the field had at step 1 is shaded, and New is stored, whatever the field has by then.
func TestWriteAtItsSteps(t *testing.T) {
	h := How{Shade: true, Mark: 1}
	m := made(t, ref(white))
	l := lookAt(t, m, NewDirect(base, api.Req{Op: api.Write, New: ref(now)}, h))
	l.Step(watch.Load(base+1), false)
	l.Stored(base+1, watch.Field(ref(tagged)))
	l.shaded(ref(white), h)
	l.Stored(base+1, watch.Field(scalar(3)))
	l.shaded(ref(now), h)
	l.Stored(base+1, watch.Junk)
	l.Stores(base+1, ref(now))
}

// P12.1: the steps of a Shade are all of them, those that it does once more because another one was faster, too.
func TestWriteShadesToTheEnd(t *testing.T) {
	h := How{Shade: true, Mark: 1}
	m := made(t, ref(white))
	l := lookAt(t, m, NewDirect(base, api.Req{Op: api.Write, New: scalar(5)}, h))
	l.Step(watch.Load(base+1), false)
	l.Step(watch.Load(white), false)
	l.Stored(white, watch.Object(0, 2, 0)+api.TagTagged<<9)
	l.Step(watch.CAS(white, false), false)
	l.Step(watch.Load(white), false)
	grey := watch.Grey(0, 2, 1, 0) + api.TagTagged<<9
	l.Want[white] = grey
	l.Step(watch.CAS(white, true), false)
	for k := range 5 {
		l.Step(watch.Load(api.AtGrey), false)
		l.Want[white] = grey + listed<<12
		l.Step(watch.Store(white), false)
		l.Stored(api.AtGrey, watch.Top(listed, 20+k))
		l.Step(watch.CAS(api.AtGrey, false), false)
	}
	l.Step(watch.Load(api.AtGrey), false)
	l.Step(watch.Store(white), false)
	l.Want[api.AtGrey] = watch.Top(white, 25)
	l.Step(watch.CAS(api.AtGrey, true), false)
	l.Stores(base+1, scalar(5))
}

// swapValues are some of those for New.
func swapValues() []api.Val {
	return []api.Val{scalar(6), ref(0), ref(white), ref(black), ref(old)}
}

// P12.1: a Swap whose field has what is expected: it is read, a hit; with Shade both are shaded; then the CAS, which is a hit too, and Yes.
func TestSwapOfWhatIsExpected(t *testing.T) {
	for _, v := range values() {
		for _, w := range append(swapValues(), v) {
			for _, h := range hows() {
				l := lookAt(t, made(t, v), NewDirect(base, api.Req{Op: api.Swap, Exp: v, New: w}, h))
				l.Step(watch.Load(base+1), true)
				l.shaded(v, h)
				l.shaded(w, h)
				l.Swaps(base+1, w)
			}
		}
	}
}

// P12.1: one whose field has something else is done with its first step, which is a hit, and not Yes; but with Canon two references are asked where their objects are: one object is what is expected, and goes on as such.
func TestSwapOfSomethingElse(t *testing.T) {
	for _, v := range values() {
		for _, exp := range values() {
			if v == exp {
				continue
			}
			for _, w := range swapValues() {
				for _, h := range hows() {
					l := lookAt(t, made(t, v), NewDirect(base, api.Req{Op: api.Swap, Exp: exp, New: w}, h))
					if !h.Canon || v.Kind != api.Ref || v.N == 0 || exp.Kind != api.Ref || exp.N == 0 {
						l.Last(watch.Load(base+1), true, api.Out{})
						continue
					}
					l.Step(watch.Load(base+1), true)
					l.Step(watch.Load(v.N), false)
					if homeOf(v.N) != homeOf(exp.N) {
						l.Last(watch.Load(exp.N), false, api.Out{})
						continue
					}
					l.Step(watch.Load(exp.N), false)
					l.shaded(v, h)
					l.shaded(w, h)
					l.Swaps(base+1, w)
				}
			}
		}
	}
}

// P12.1: what is expected, and no value of a field, is never met: the number is not cut.
func TestSwapOfNoValue(t *testing.T) {
	for _, exp := range []api.Val{
		scalar(-1), scalar(1<<61 + 5), scalar(math.MinInt), {Kind: 4, N: 5}, {Kind: -1, N: 5}, {Kind: 5, N: white}, ref(1<<61 + white),
	} {
		for _, v := range []api.Val{scalar(5), scalar(1<<61 - 1), ref(white), {Kind: 3, N: 5}, scalar(0)} {
			l := lookAt(t, made(t, v), NewDirect(base, api.Req{Op: api.Swap, Exp: exp, New: scalar(6)}, How{}))
			l.Last(watch.Load(base+1), true, api.Out{})
		}
	}
}

// P12.1: a word that is frozen has what is expected; the CAS is of the word as it was seen, and lays down one that is not frozen.
func TestSwapOfFrozen(t *testing.T) {
	m := made(t, scalar(0))
	m.Store(base+1, watch.Field(scalar(5))|frozen)
	l := lookAt(t, m, NewDirect(base, api.Req{Op: api.Swap, Exp: scalar(5), New: scalar(6)}, How{}))
	l.Step(watch.Load(base+1), true)
	l.Swaps(base+1, scalar(6))
}

// P12.1: a CAS that finds another word is no hit, and the Swap goes on at its step 1, which is one: by what the field has then.
func TestSwapGoesOn(t *testing.T) {
	exp, with := ref(white), ref(tagged)
	for _, h := range hows() {
		for _, tries := range [][][2]api.Val{ // what the field has at each CAS, and at the Load behind it
			{{scalar(6), exp}},
			{{with, exp}},
			{{scalar(6), exp}, {ref(0), exp}, {ref(0), exp}},
			{{scalar(6), scalar(6)}},
			{{ref(0), ref(0)}},
			{{ref(0), exp}, {exp, scalar(white)}},
		} {
			l := lookAt(t, made(t, exp), NewDirect(base, api.Req{Op: api.Swap, Exp: exp, New: with}, h))
			has := exp
			for _, try := range tries {
				l.Step(watch.Load(base+1), true)
				l.shaded(exp, h)
				l.shaded(with, h)
				l.Stored(base+1, watch.Field(try[0])|frozen)
				l.Fails(base + 1)
				has = try[1]
				l.Stored(base+1, watch.Field(has))
			}
			if has != exp {
				l.Last(watch.Load(base+1), true, api.Out{})
				continue
			}
			l.Step(watch.Load(base+1), true)
			l.shaded(exp, h)
			l.shaded(with, h)
			l.Swaps(base+1, with)
		}
	}
}

// P12.1: with Canon the field may have another one's address of the same object by then: the CAS is of the word that was seen last.
func TestSwapGoesOnWithCanon(t *testing.T) {
	for _, shade := range []bool{false, true} {
		h := How{Shade: shade, Canon: true, Mark: 1}
		m := made(t, ref(old))
		l := lookAt(t, m, NewDirect(base, api.Req{Op: api.Swap, Exp: ref(old), New: scalar(6)}, h))
		l.Step(watch.Load(base+1), true)
		l.shaded(ref(old), h)
		l.Stored(base+1, watch.Field(ref(now)))
		l.Fails(base + 1)
		l.Step(watch.Load(base+1), true)
		l.Step(watch.Load(now), false)
		l.Stored(old, watch.Moved(0, 3, 1, now)) // a Shade has taken its link away
		l.Step(watch.Load(old), false)
		l.shaded(ref(now), h)
		l.Stored(base+1, watch.Field(ref(elder)))
		l.Fails(base + 1)
		l.Step(watch.Load(base+1), true)
		l.Step(watch.Load(elder), false)
		l.Step(watch.Load(old), false)
		l.shaded(ref(elder), h)
		l.Stored(base+1, watch.Field(ref(white)))
		l.Fails(base + 1)
		l.Step(watch.Load(base+1), true)
		l.Step(watch.Load(white), false)
		l.Last(watch.Load(old), false, api.Out{})
	}
}

// P12.1: with Canon the headers count as they are at their steps, and the field as it was at the step 1.
func TestSwapAtItsSteps(t *testing.T) {
	h := How{Canon: true}
	r := api.Req{Op: api.Swap, Exp: ref(now), New: scalar(6)}
	l := lookAt(t, made(t, ref(white)), NewDirect(base, r, h))
	l.Step(watch.Load(base+1), true)
	l.Stored(white, watch.Moved(0, 2, 0, now))
	l.Step(watch.Load(white), false)
	l.Stored(white, watch.Object(0, 2, 0))
	l.Step(watch.Load(now), false)
	l.Swaps(base+1, scalar(6))

	l = lookAt(t, made(t, ref(white)), NewDirect(base, r, h))
	l.Step(watch.Load(base+1), true)
	l.Step(watch.Load(white), false)
	l.Stored(white, watch.Moved(0, 2, 0, now))
	l.Last(watch.Load(now), false, api.Out{})

	l = lookAt(t, made(t, ref(white)), NewDirect(base, r, h))
	l.Step(watch.Load(base+1), true)
	l.Stored(base+1, watch.Field(ref(now)))
	l.Step(watch.Load(white), false)
	l.Last(watch.Load(now), false, api.Out{})
}

// P12.1: all bits of the field's word are held against what was seen.
func TestSwapHoldsAllBits(t *testing.T) {
	for bit := range 64 {
		l := lookAt(t, made(t, scalar(5)), NewDirect(base, api.Req{Op: api.Swap, Exp: scalar(5), New: scalar(6)}, How{}))
		l.Step(watch.Load(base+1), true)
		l.Stored(base+1, watch.Field(scalar(5))^1<<bit)
		l.Fails(base + 1)
		if 1<<bit != frozen {
			l.Last(watch.Load(base+1), true, api.Out{})
			continue
		}
		l.Step(watch.Load(base+1), true)
		l.Swaps(base+1, scalar(6))
	}
}

// P12.1: New is cut to what a word holds, as slot cuts it; whether it is to be shaded goes by what it is.
func TestNewIsCut(t *testing.T) {
	for _, n := range edges.Numbers() {
		for _, kind := range []int{api.Scalar, api.Empty, 3, 4, 5, -3, n} {
			if kind == api.Ref {
				continue
			}
			v := api.Val{Kind: int(edges.Modulo(kind, 2)), N: int(edges.Modulo(n, 61))}
			w := api.Val{Kind: kind, N: n}
			for _, h := range []How{{}, {Shade: true, Mark: 1}} {
				l := lookAt(t, made(t, scalar(5)), NewDirect(base, api.Req{Op: api.Write, New: w}, h))
				if h.Shade {
					l.Step(watch.Load(base+1), false)
				}
				l.Stores(base+1, v)
				l = lookAt(t, made(t, scalar(5)), NewDirect(base, api.Req{Op: api.Swap, Exp: scalar(5), New: w}, h))
				l.Step(watch.Load(base+1), true)
				l.Swaps(base+1, v)
			}
		}
	}
}

// P12.1: of another Op it is done at once, with no access and nothing told.
func TestOtherOps(t *testing.T) {
	for _, op := range append(edges.Numbers(), 0, 4) {
		if op >= api.Read && op <= api.Swap {
			continue
		}
		m := made(t, ref(white))
		r := api.Req{Op: op, At: base, Exp: ref(white), New: ref(now)}
		watch.AtOnce(t, m, NewDirect(base, r, How{Shade: true, Canon: true, Fix: true, Mark: 1}), api.Out{})
	}
}

// hasExpected tells whether a field that has v has what is expected.
func hasExpected(v, exp api.Val, h How) bool {
	if v == exp {
		return true
	}
	refs := v.Kind == api.Ref && exp.Kind == api.Ref && v.N != 0 && exp.N != 0
	return h.Canon && refs && homeOf(v.N) == homeOf(exp.N)
}

// P12.4: alone, a Read tells what the field has, a Write lets it have New, a Swap does so just if it has Exp; each with at most 14 steps, each of them an access, none a trap. No other field changes.
func TestAlone(t *testing.T) {
	for _, v := range values() {
		made := made(t, v)
		for _, exp := range values() {
			for _, h := range hows() {
				for _, op := range []int{api.Read, api.Write, api.Swap} {
					for _, w := range swapValues() {
						m := made.Clone()
						count := m.Count()
						x := NewDirect(base, api.Req{Op: op, Exp: exp, New: w}, h)
						n := watch.Run(t, x, m)
						if n > 14 || m.Count() != count+n || m.Traps() != 0 {
							t.Errorf("%d steps, %d accesses, %d traps", n, m.Count()-count, m.Traps())
						}
						checkAlone(t, m, v, x.Result(), api.Req{Op: op, Exp: exp, New: w}, h)
					}
				}
			}
		}
	}
}

func checkAlone(t *testing.T, m *mem.Memory, v api.Val, got api.Out, r api.Req, h How) {
	t.Helper()
	has, out := v, api.Out{}
	switch r.Op {
	case api.Read:
		out.V = v
		if h.Fix && v.Kind == api.Ref {
			out.V.N = homeOf(v.N)
		}
	case api.Write:
		has = r.New
	case api.Swap:
		if hasExpected(v, r.Exp, h) {
			has, out.Yes = r.New, true
		}
	}
	if got != out {
		t.Errorf("%v: %+v, %+v: Result is %v, want %v", v, r, h, got, out)
	}
	watch.CheckWord(t, m, base+1, watch.Field(has))
	watch.CheckWord(t, m, base+2, watch.Junk)
	watch.CheckWord(t, m, base+3, watch.Junk)
}

// P12.1 to P12.3: the chapter's examples.
func TestExamples(t *testing.T) {
	m, _ := mem.New(160)
	m.Store(96, watch.Object(0, 1, 0))
	m.Store(97, watch.Field(scalar(5)))
	d := NewDirect(96, api.Req{Op: api.Read}, How{})
	if !d.Step(m) || d.Result() != (api.Out{Code: api.OK, V: api.Val{Kind: api.Scalar, N: 5}}) {
		t.Errorf("a Read: %v", d.Result())
	}
	p := NewPlain(api.Req{Op: api.Write, At: 96, Field: 1}, api.Env{})
	if !p.Step(m) || p.Result() != (api.Out{Code: api.ErrField}) {
		t.Errorf("a Write: %v", p.Result())
	}
	if s := NewSame(96, 96); !s.Yes() {
		t.Error("96 and 96 are not the same")
	}
	if s := NewSame(96, 100); s.Step(m) || !s.Step(m) || s.Yes() {
		t.Error("96 and 100 are the same, or not with two steps")
	}
}

// R6: a new machine does no access, and keeps no more of what it is given than its value.
func TestNewDoesNothing(t *testing.T) {
	m := made(t, ref(white))
	count := m.Count()
	r, h := api.Req{Op: api.Read, At: base}, How{}
	x, y := NewDirect(base, r, h), NewPlain(r, api.Env{})
	NewSame(white, now)
	r.Op, r.Field, h.Fix = api.Write, 2, true
	if m.Count() != count {
		t.Error("a new machine does an access")
	}
	l := lookAt(t, m, x)
	l.Last(watch.Load(base+1), true, api.Out{V: ref(white)})
	l = lookAt(t, m, y)
	l.Step(watch.Load(base), false)
	l.Last(watch.Load(base+1), true, api.Out{V: ref(white)})
}

// R1: of a field that the memory does not have each step is still one access: a Read tells nought, a Write is done, a Swap of something else than nought too; one of nought goes on for ever, as its CAS is a trap.
func TestFieldsThatAreNotThere(t *testing.T) {
	for _, n := range edges.Numbers() {
		if f := n + 1; f >= 0 && f < size {
			continue
		}
		m := made(t, scalar(5))
		before, count := watch.Words(m), m.Count()
		read := NewDirect(n, api.Req{Op: api.Read}, How{Fix: true})
		write := NewDirect(n, api.Req{Op: api.Write, New: scalar(7)}, How{Shade: true})
		swap := NewDirect(0, api.Req{Op: api.Swap, Field: n, Exp: scalar(5), New: scalar(7)}, How{Canon: true})
		if !read.Step(m) || read.Result() != (api.Out{}) || write.Step(m) || !write.Step(m) || !swap.Step(m) || swap.Result().Yes {
			t.Errorf("base %d: %v, %v, %v", n, read.Result(), write.Result(), swap.Result())
		}
		if m.Count() != count+4 || m.Traps() != 4 {
			t.Errorf("base %d: %d accesses, %d traps", n, m.Count()-count, m.Traps())
		}
		swap = NewDirect(n, api.Req{Op: api.Swap, New: scalar(7)}, How{})
		for k := range 20 {
			if swap.Step(m) || swap.Hit() != (k%2 == 0) || m.Count() != count+5+k {
				t.Errorf("base %d: the step %d is done, or no access", n, k+1)
			}
		}
		watch.CheckWords(t, m, before)
	}
}

// R1: of a reference to what the memory does not have the header's Load is a trap, which answers 0: it was not moved, and is no object.
func TestReferencesThatAreNotThere(t *testing.T) {
	for _, n := range edges.Numbers() {
		if n >= 0 && n < size {
			continue
		}
		m := made(t, ref(size))
		before := watch.Words(m)
		x := NewDirect(base, api.Req{Op: api.Swap, Exp: ref(n), New: ref(n)}, How{Canon: true})
		yes := n == size
		if k := watch.Run(t, x, m); x.Result().Yes != yes || yes && k != 2 || !yes && k != 3 {
			t.Errorf("%d: %d steps, %v", n, k, x.Result())
		}
		if !yes {
			watch.CheckWords(t, m, before)
		}
		m = made(t, ref(size))
		y := NewDirect(base, api.Req{Op: api.Write, New: ref(n)}, How{Shade: true, Mark: 1})
		if k := watch.Run(t, y, m); k != 4 {
			t.Errorf("%d: %d steps", n, k)
		}
		before[base+1] = 1 + edges.Modulo(n, 61)<<3
		watch.CheckWords(t, m, before)
	}
	m := made(t, ref(1<<61-1))
	l := lookAt(t, m, NewDirect(base, api.Req{Op: api.Read}, How{Fix: true}))
	watch.Run(t, l.X, m)
	l.Told(false, api.Out{V: ref(1<<61 - 1)})
}

// R1: machines that nobody made are done, with nothing.
func TestMadeByNobody(t *testing.T) {
	m := made(t, ref(white))
	watch.AtOnce(t, m, &Direct{}, api.Out{})
	watch.AtOnce(t, m, &Plain{}, api.Out{})
	watch.AtOnce(t, m, sameTells{&Same{}}, api.Out{})
}

// copyOf is a copy of a machine.
func copyOf(x watch.Accessor) watch.Accessor {
	switch x := x.(type) {
	case *Direct:
		y := *x
		return &y
	case *Plain:
		y := *x
		return &y
	case sameTells:
		y := *x.Same
		return sameTells{&y}
	}
	return nil
}

// A copy of a machine goes its own way, at each step of it: also if the machine has done the same steps already.
func TestCopiesGoTheirOwnWay(t *testing.T) {
	swap := api.Req{Op: api.Swap, At: base, Exp: ref(old), New: ref(white)}
	for name, begin := range map[string]func() watch.Accessor{
		"a Read": func() watch.Accessor { return NewDirect(base, api.Req{Op: api.Read}, How{Fix: true}) },
		"a Write": func() watch.Accessor {
			return NewDirect(base, api.Req{Op: api.Write, New: ref(white)}, How{Shade: true, Mark: 1})
		},
		"a Swap":       func() watch.Accessor { return NewDirect(base, swap, How{Shade: true, Canon: true, Mark: 1}) },
		"a Plain Swap": func() watch.Accessor { return NewPlain(swap, api.Env{Mode: api.ModeRoots, Mark: 1}) },
		"a Same":       func() watch.Accessor { return sameTells{NewSame(old, elder)} },
	} {
		m := made(t, ref(old))
		all := watch.Run(t, begin(), m)
		for steps := range all {
			m := made(t, ref(old))
			x := begin()
			for range steps {
				x.Step(m)
			}
			y, n := copyOf(x), m.Clone()
			if k := watch.Run(t, x, m); k != all-steps {
				t.Errorf("%s takes %d more steps behind %d", name, k, steps)
			}
			if y.Result() != (api.Out{}) {
				t.Errorf("%s: the copy tells %v behind %d steps", name, y.Result(), steps)
			}
			if k := watch.Run(t, y, n); k != all-steps || y.Result() != x.Result() || y.Hit() != x.Hit() {
				t.Errorf("%s: the copy takes %d more steps behind %d, and tells %v, want %v", name, k, steps, y.Result(), x.Result())
			}
			watch.CheckWords(t, n, watch.Words(m))
		}
	}
}
