package direct

import (
	"math"
	"testing"

	"flit/api"
	"flit/edges"
	"flit/watch"
)

// P12.2: of the address 0 it is done at once, with ErrNil, whatever else is wrong.
func TestPlainOfNil(t *testing.T) {
	for op := range 6 {
		for _, field := range []int{0, 1, -1, 7, 8, math.MaxInt, math.MinInt} {
			for mode := range 10 {
				m := made(t, ref(white))
				m.Store(0, watch.Object(0, 7, 0))
				x := NewPlain(api.Req{Op: op, Field: field, Exp: ref(white), New: ref(now)}, api.Env{Mode: mode, Mark: 1})
				watch.AtOnce(t, m, x, api.Out{Code: api.ErrNil})
			}
		}
	}
}

// P12.2: of a field below 0, and of one not below the Count, the first step is the last one, with ErrField, whatever the Op; no word changes, and there is no hit.
func TestPlainOfNoField(t *testing.T) {
	for count := range 8 {
		for _, field := range []int{-1, -2, -8, math.MinInt, count, count + 1, 8, math.MaxInt} {
			for op := range 6 {
				for mode := range 10 {
					m := made(t, ref(white))
					m.Store(base, watch.Object(1, count, 1))
					r := api.Req{Op: op, At: base, Field: field, Exp: ref(white), New: ref(now)}
					l := lookAt(t, m, NewPlain(r, api.Env{Mode: mode, Mark: 1}))
					l.Last(watch.Load(base), false, api.Out{Code: api.ErrField})
				}
			}
		}
	}
}

// P12.2: each field below the Count is one, whatever else the header says.
func TestPlainOfEachField(t *testing.T) {
	for bits := range 1 << 12 {
		count := bits >> 4 % 8
		for field := range count {
			m := made(t, scalar(5))
			m.Store(32, uint64(bits)|math.MaxUint64&^0xfff)
			m.Store(33+field, watch.Field(scalar(9)))
			x := NewPlain(api.Req{Op: api.Read, At: 32, Field: field}, api.Env{})
			m.Take()
			n := watch.Run(t, x, m)
			if l := m.Take(); n != 2 || l[0] != watch.Load(32) || l[1] != watch.Load(33+field) {
				t.Errorf("%#x, field %d: accesses %v", bits, field, l)
			}
			if x.Result() != (api.Out{V: scalar(9)}) {
				t.Errorf("%#x, field %d: %v", bits, field, x.Result())
			}
		}
	}
}

// shadesIn tells whether threads shade in a mode, said here once more.
func shadesIn(mode int) bool { return mode == 1 || mode == 2 || mode == 3 }

// P12.2: in each mode it goes on as a Direct does: with Shade in ModeShade, ModeRoots and ModeTerm alone, with the mark that is given; never with Canon or Fix.
func TestPlainOfEachMode(t *testing.T) {
	modes := []int{0, 1, 2, 3, 4, 5, 6, 7, 8, 9, 16, 17, -1, math.MaxInt, math.MinInt + 1}
	for _, mode := range modes {
		for mark := range 2 {
			e := api.Env{Mode: mode, Mark: mark, Alpha: 5}
			h := How{Shade: shadesIn(mode), Mark: mark}
			for _, v := range values() {
				r := api.Req{Op: api.Read, At: base, Exp: scalar(1), New: scalar(2)}
				l := lookAt(t, made(t, v), NewPlain(r, e))
				l.Step(watch.Load(base), false)
				l.Last(watch.Load(base+1), true, api.Out{V: v})
				for _, w := range swapValues() {
					plainWrite(t, v, w, e, h)
					plainSwap(t, v, v, w, e, h)
					plainSwap(t, v, ref(now), w, e, h)
				}
			}
		}
	}
}

func plainWrite(t *testing.T, v, w api.Val, e api.Env, h How) {
	t.Helper()
	l := lookAt(t, made(t, v), NewPlain(api.Req{Op: api.Write, At: base, New: w}, e))
	l.Step(watch.Load(base), false)
	if h.Shade {
		l.Step(watch.Load(base+1), false)
	}
	l.shaded(v, h)
	l.shaded(w, h)
	l.Stores(base+1, w)
}

func plainSwap(t *testing.T, v, exp, w api.Val, e api.Env, h How) {
	t.Helper()
	l := lookAt(t, made(t, v), NewPlain(api.Req{Op: api.Swap, At: base, Exp: exp, New: w}, e))
	l.Step(watch.Load(base), false)
	if v != exp {
		l.Last(watch.Load(base+1), true, api.Out{})
		return
	}
	l.Step(watch.Load(base+1), true)
	l.shaded(v, h)
	l.shaded(w, h)
	l.Swaps(base+1, w)
}

// P12.2: a Swap whose CAS finds another word goes on at the Direct's step 1: the header is not asked once more.
func TestPlainSwapGoesOn(t *testing.T) {
	m := made(t, scalar(5))
	l := lookAt(t, m, NewPlain(api.Req{Op: api.Swap, At: base, Exp: scalar(5), New: scalar(6)}, api.Env{}))
	l.Step(watch.Load(base), false)
	l.Stored(base, 0)
	for range 3 {
		l.Step(watch.Load(base+1), true)
		l.Stored(base+1, watch.Field(scalar(7)))
		l.Fails(base + 1)
		l.Stored(base+1, watch.Field(scalar(5)))
	}
	l.Step(watch.Load(base+1), true)
	l.Swaps(base+1, scalar(6))
}

// P12.2: the header that counts is that of the step 1; an object that was moved is accessed where it stood.
func TestPlainAtItsSteps(t *testing.T) {
	m := made(t, scalar(5))
	m.Store(base, 0)
	x := NewPlain(api.Req{Op: api.Read, At: base}, api.Env{})
	m.Store(base, watch.Moved(0, 1, 0, now))
	l := lookAt(t, m, x)
	l.Step(watch.Load(base), false)
	l.Stored(base+1, watch.Field(scalar(6)))
	l.Last(watch.Load(base+1), true, api.Out{V: scalar(6)})

	m = made(t, scalar(5))
	m.Store(base, 0)
	x = NewPlain(api.Req{Op: api.Read, At: base}, api.Env{})
	l = lookAt(t, m, x)
	l.Last(watch.Load(base), false, api.Out{Code: api.ErrField})
	l.Stored(base, watch.Object(0, 1, 0))
	l.Told(false, api.Out{Code: api.ErrField})
}

// P12.2: of another Op the Direct has no steps: it is done with its first one, with nothing told.
func TestPlainOfOtherOps(t *testing.T) {
	for _, op := range append(edges.Numbers(), 0, 4) {
		if op >= api.Read && op <= api.Swap {
			continue
		}
		r := api.Req{Op: op, At: base, Exp: ref(white), New: ref(now)}
		l := lookAt(t, made(t, ref(white)), NewPlain(r, api.Env{Mode: api.ModeShade, Mark: 1}))
		l.Last(watch.Load(base), false, api.Out{})
	}
}

// P12.2, P12.4: alone, in each mode, a Plain does what a Direct does, and one step more.
func TestPlainAlone(t *testing.T) {
	for mode := range 9 {
		for _, v := range values() {
			made := made(t, v)
			for _, exp := range values() {
				for op := api.Read; op <= api.Swap; op++ {
					for _, w := range swapValues() {
						r := api.Req{Op: op, At: base, Exp: exp, New: w}
						m, d := made.Clone(), made.Clone()
						x := NewPlain(r, api.Env{Mode: mode, Mark: 1})
						n := watch.Run(t, x, m)
						checkAlone(t, m, v, x.Result(), r, How{})
						y := NewDirect(base, r, How{Shade: shadesIn(mode), Mark: 1})
						k := watch.Run(t, y, d)
						if n != k+1 || x.Result() != y.Result() || x.Hit() != y.Hit() || m.Traps() != 0 {
							t.Errorf("%+v: %d steps, %v; of a Direct %d, %v", r, n, x.Result(), k, y.Result())
						}
						watch.CheckWords(t, m, watch.Words(d))
					}
				}
			}
		}
	}
}

// R1: of an address that the memory does not have the header has no fields.
func TestPlainOfWhatIsNotThere(t *testing.T) {
	for _, n := range edges.Numbers() {
		if n >= 0 && n < size {
			continue
		}
		m := made(t, scalar(5))
		before, count := watch.Words(m), m.Count()
		x := NewPlain(api.Req{Op: api.Write, At: n, New: scalar(7)}, api.Env{})
		if !x.Step(m) || x.Result() != (api.Out{Code: api.ErrField}) || m.Count() != count+1 {
			t.Errorf("%d: %v, %d accesses", n, x.Result(), m.Count()-count)
		}
		watch.CheckDone(t, x, m)
		watch.CheckWords(t, m, before)
	}
}

// P12.3: two addresses that are the same, or of which one is 0: done at once; they are the same, or not.
func TestSameAtOnce(t *testing.T) {
	for _, n := range append(edges.Numbers(), base, white, old, free) {
		m := made(t, scalar(5))
		watch.AtOnce(t, m, sameTells{NewSame(n, n)}, api.Out{Yes: true})
		watch.AtOnce(t, m, sameTells{NewSame(0, n)}, api.Out{Yes: n == 0})
		watch.AtOnce(t, m, sameTells{NewSame(n, 0)}, api.Out{Yes: n == 0})
	}
}

// P12.3: else two steps, of the one header and of the other: the same, if both are at one place, either way round.
func TestSame(t *testing.T) {
	places := []int{base, white, black, old, now, elder, free, tagged, feigned, listed}
	for _, a := range places {
		for _, b := range places {
			if a == b {
				continue
			}
			l := lookAt(t, made(t, scalar(5)), sameTells{NewSame(a, b)})
			l.Step(watch.Load(a), false)
			l.Last(watch.Load(b), false, api.Out{Yes: homeOf(a) == homeOf(b)})
		}
	}
}

// P12.3: each header counts as it is at its step; one that was moved twice is followed once.
func TestSameAtItsSteps(t *testing.T) {
	m := made(t, scalar(5))
	l := lookAt(t, m, sameTells{NewSame(white, now)})
	l.Stored(white, watch.Moved(0, 2, 0, now))
	l.Step(watch.Load(white), false)
	l.Stored(white, watch.Object(0, 2, 0))
	l.Last(watch.Load(now), false, api.Out{Yes: true})
	l.Stored(now, watch.Moved(0, 2, 0, black))
	l.Told(false, api.Out{Yes: true})

	l = lookAt(t, made(t, scalar(5)), sameTells{NewSame(white, now)})
	l.Step(watch.Load(white), false)
	l.Stored(white, watch.Moved(0, 2, 0, now))
	l.Last(watch.Load(now), false, api.Out{})

	m = made(t, scalar(5))
	m.Store(now, watch.Moved(0, 3, 0, white))
	l = lookAt(t, m, sameTells{NewSame(old, white)})
	l.Step(watch.Load(old), false)
	l.Last(watch.Load(white), false, api.Out{})
}

// R1: of addresses that the memory does not have each is its own.
func TestSameOfWhatIsNotThere(t *testing.T) {
	for _, n := range edges.Numbers() {
		if n >= 0 && n < size {
			continue
		}
		m := made(t, scalar(5))
		before := watch.Words(m)
		for _, x := range []*Same{NewSame(n, white), NewSame(white, n), NewSame(n, n-1), NewSame(old, n)} {
			count := m.Count()
			if x.Step(m) || x.Yes() || !x.Step(m) || x.Yes() || m.Count() != count+2 {
				t.Errorf("%d: Yes is %t, %d accesses", n, x.Yes(), m.Count()-count)
			}
		}
		watch.CheckWords(t, m, before)
	}
}
