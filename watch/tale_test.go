package watch

import (
	"slices"
	"testing"

	"flit/api"
	"flit/direct"
	"flit/grey"
	"flit/mem"
	"flit/plan"
	"flit/shake"
)

// adding lets the word 1 be the sum of the words 2 and 3, if it is nought by then.
func adding(t *Tale) api.Out {
	sum := t.Load(2) + t.Load(3)
	t.Hit = true
	if t.CAS(1, 0, sum) {
		t.Hit = true
		return api.Out{Yes: true}
	}
	t.Store(4, sum)
	return api.Out{}
}

// A tale is as far as its answers; its next access is not done till somebody does it.
func TestTale(t *testing.T) {
	m := made(t)
	var met []uint64
	for k, want := range []struct {
		hit  bool
		next api.Access
	}{{false, Load(2)}, {false, Load(3)}, {true, CAS(1, false)}, {false, Store(4)}} {
		x := Tell(adding, met)
		if x.Hit != want.hit || x.Out != (api.Out{}) || x.Next == nil {
			t.Fatalf("behind %d answers: %+v", k, x)
		}
		m.Take()
		met = append(met, x.Next(m))
		if did := m.Take(); !slices.Equal(did, []api.Access{want.next}) {
			t.Errorf("the access %d is %v, want %v", k, did, want.next)
		}
	}
	CheckWord(t, m, 4, 13)
	for n := range 5 {
		if x := Tell(adding, met[:n]); x.Answered() != n {
			t.Errorf("%d of %d are answered", x.Answered(), n)
		}
	}
	if x := Tell(adding, met); x.Next != nil || x.Hit || x.Out != (api.Out{}) {
		t.Errorf("at its end: %+v", x)
	}
	if x := Tell(adding, []uint64{4, 9, 1}); x.Next != nil || !x.Hit || x.Out != (api.Out{Yes: true}) {
		t.Errorf("at its other end: %+v", x)
	}
}

// A CAS2 is an access of two words, which is done or not.
func TestTaleOfPairs(t *testing.T) {
	swapping := func(t *Tale) api.Out {
		return api.Out{Yes: t.CAS2(2, 4, 9, 7, 8)}
	}
	for w, done := range map[uint64]bool{9: true, 10: false} {
		m := made(t)
		m.Store(3, w)
		m.Take()
		met := []uint64{Tell(swapping, nil).Next(m)}
		if did := m.Take(); !slices.Equal(did, []api.Access{CAS2(2, done)}) {
			t.Errorf("the access is %v", did)
		}
		if x := Tell(swapping, met); x.Next != nil || x.Out != (api.Out{Yes: done}) {
			t.Errorf("at its end: %+v", x)
		}
		if done {
			w = 8
		}
		CheckWord(t, m, 3, w)
	}
}

// What else a work panics with goes on.
func TestTaleThatPanics(t *testing.T) {
	defer func() {
		if e := recover(); e != "own" {
			t.Errorf("recover tells %v", e)
		}
	}()
	Tell(func(*Tale) api.Out { panic("own") }, nil)
}

// The steps of a Direct that are written here once more are those of layer 12.
func TestTaleOfDirect(t *testing.T) {
	const at, old, now, size = 8, 12, 16, 20
	refTo := func(n int) api.Val { return api.Val{Kind: api.Ref, N: n} }
	values := []api.Val{{}, {N: 5}, {Kind: api.Empty}, refTo(0), refTo(at), refTo(old), refTo(now)}
	for op := range 5 {
		for _, v := range values {
			for _, exp := range values {
				for bits := range 8 {
					m, _ := mem.New(size)
					m.Store(old, Moved(0, 1, 0, now))
					m.Store(at+2, Field(v))
					r := api.Req{Op: op, Field: 1, Exp: exp, New: refTo(now)}
					canon, fix := bits&1 != 0, bits&2 != 0
					b := Beside{
						X:    direct.NewDirect(at, r, direct.How{Canon: canon, Fix: fix}),
						Work: func(t *Tale) api.Out { return t.Direct(at, r, canon, fix) },
					}
					walk(t, &b, m, func() {
						if bits&4 != 0 && v == exp && len(b.Met) == 1 { // frozen ahead of the first CAS, so that this one fails
							m.Store(10, Word(m, 10)|4)
						}
					})
				}
			}
		}
	}
}

// The steps of a Shade that are written here once more are those of layer 11, as a Direct does them that shades what it writes.
func TestTaleOfShade(t *testing.T) {
	const at, white, size = 8, 12, 20
	for bits := range 16 { // two marks, and whether the header, or the list, is another one by then
		for _, to := range []int{0, white} {
			m, _ := mem.New(size)
			mark := bits & 1
			m.Store(api.AtGrey, Top(16, 1<<40-2))
			m.Store(white, Tagged(1, 5, bits>>1&1, api.TagMoved, 16)|1<<40)
			r := api.Req{Op: api.Write, New: api.Val{Kind: api.Ref, N: to}}
			b := Beside{
				X: direct.NewDirect(at, r, direct.How{Shade: true, Mark: mark}),
				Work: func(t *Tale) api.Out {
					t.Load(at + 1)
					t.Shade(to, mark)
					t.Store(at+1, Field(r.New))
					t.Hit = true
					return api.Out{}
				},
			}
			walk(t, &b, m, func() {
				if bits&4 != 0 && len(b.Met) == 2 {
					m.Store(white, Word(m, white)+1<<9)
				}
				if bits&8 != 0 && len(b.Met) == 5 {
					m.Store(api.AtGrey, Top(0, 1<<40-1))
				}
			})
		}
	}
}

// taking is a Next that tells the place and the count of what it has taken as a value.
type taking struct {
	Quiet
	x *grey.Next
}

func (y taking) Result() api.Out {
	at, count := y.x.Result()
	return api.Out{V: api.Val{Kind: count, N: at}}
}

// The steps of a Next that are written here once more are those of layer 11.
func TestTaleOfNext(t *testing.T) {
	const first, second, size = 8, 12, 20
	for bits := range 8 { // whether there is one, and whether its header, or the list, is another one by then
		m, _ := mem.New(size)
		if bits&1 != 0 {
			m.Store(api.AtGrey, Top(first, 1<<40-2))
		}
		m.Store(first, Grey(1, 5, 1, second)|3<<40)
		m.Store(second, Grey(0, 2, 1, 0))
		x := grey.NewNext()
		b := Beside{
			X: taking{Quiet{x}, x},
			Work: func(t *Tale) api.Out {
				at, count := t.TakeGrey()
				return api.Out{V: api.Val{Kind: count, N: at}}
			},
		}
		walk(t, &b, m, func() {
			if bits&2 != 0 && len(b.Met) == 2 {
				m.Store(first, Grey(1, 4, 0, 0))
			}
			if bits&4 != 0 && len(b.Met) == 2 {
				m.Store(api.AtGrey, Top(second, 1<<40-1))
			}
		})
	}
}

// The steps of an Ask that are written here once more are those of layer 16.
func TestTaleOfAsk(t *testing.T) {
	for threads := range 5 {
		for late := range 5 { // a thread that has not acknowledged for a while; the 4 is none
			p, e := plan.New(4, 1)
			if e != api.OK {
				t.Fatalf("plan.New: error %d", e)
			}
			p.Threads = threads
			m, _ := mem.New(p.Size)
			q := api.Phase{No: 1<<40 - 1, Mode: api.ModeTerm, Mark: 1, List: late % 2}
			b := Beside{
				X: Quiet{shake.NewAsk(p, q)},
				Work: func(t *Tale) api.Out {
					t.Ask(threads, q)
					return api.Out{}
				},
			}
			walk(t, &b, m, func() {
				for k := range 4 {
					if k != late || len(b.Met) > 6 {
						m.Store(api.AtAcks+k, 1<<40-1)
					}
				}
			})
			if looks := len(b.Met) - 1; looks < threads || late < threads != (looks > threads) {
				t.Errorf("%d looks at %d threads", looks, threads)
			}
		}
	}
}

// walk does all steps, ahead of each of which others come in between.
func walk(t *testing.T, b *Beside, m *mem.Memory, others func()) {
	t.Helper()
	for done := Tell(b.Work, b.Met).Next == nil; !done; {
		var wrong string
		others()
		if _, done, wrong = b.Step(m); wrong != "" {
			t.Fatalf("behind %d: %s", b.Met, wrong)
		}
	}
	if _, _, wrong := b.Step(m); wrong == "" {
		t.Error("there is a step behind the last one")
	}
}

// A machine that does something else than its work says is told.
func TestBesideThatFinds(t *testing.T) {
	loads := func(t *Tale) api.Out {
		t.Load(2)
		t.Hit = true
		return api.Out{Yes: true}
	}
	for _, x := range []struct {
		name string
		do   []func(m *mem.Memory)
		hit  bool
		out  api.Out
		ok   bool
	}{
		{"the same", []func(m *mem.Memory){loadTwo}, true, api.Out{Yes: true}, true},
		{"another access", []func(m *mem.Memory){storeOne}, true, api.Out{Yes: true}, false},
		{"two accesses", []func(m *mem.Memory){loadTwice}, true, api.Out{Yes: true}, false},
		{"no access", []func(m *mem.Memory){none}, true, api.Out{Yes: true}, false},
		{"not done", []func(m *mem.Memory){loadTwo, none}, true, api.Out{Yes: true}, false},
		{"no hit", []func(m *mem.Memory){loadTwo}, false, api.Out{Yes: true}, false},
		{"another Out", []func(m *mem.Memory){loadTwo}, true, api.Out{}, false},
	} {
		b := Beside{X: &telling{row{l: x.do}, []bool{false, x.hit, x.hit}, []api.Out{{}, x.out, x.out}}, Work: loads}
		if _, _, wrong := b.Step(made(t)); (wrong == "") != x.ok {
			t.Errorf("%s: %q", x.name, wrong)
		}
	}
	stores := func(t *Tale) api.Out {
		t.Store(1, 6)
		return api.Out{}
	}
	b := Beside{X: &telling{row{l: []func(m *mem.Memory){storeOne}}, make([]bool, 2), make([]api.Out, 2)}, Work: stores}
	if _, _, wrong := b.Step(made(t)); wrong == "" {
		t.Error("another word that is stored is not found")
	}
}

// A copy of a Beside goes its own way.
func TestBesideCopied(t *testing.T) {
	r := api.Req{Op: api.Swap, Exp: api.Val{N: 1}, New: api.Val{N: 2}}
	tells := func(t *Tale) api.Out { return t.Direct(0, r, false, false) }
	m := made(t)
	m.Store(1, Field(r.Exp))
	x := direct.NewDirect(0, r, direct.How{})
	b := Beside{X: x, Work: tells}
	if _, _, wrong := b.Step(m); wrong != "" {
		t.Fatal(wrong)
	}
	y, n, c := *x, m.Clone(), b
	c.X = &y
	m.Store(1, 0)
	if _, _, wrong := b.Step(m); wrong != "" {
		t.Error(wrong)
	}
	if _, done, wrong := c.Step(n); wrong != "" || !done || slices.Equal(b.Met, c.Met) {
		t.Errorf("%s: %d and %d were met", wrong, b.Met, c.Met)
	}
}
