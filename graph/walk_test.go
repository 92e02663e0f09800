package graph

import (
	"fmt"
	"math/rand"
	"testing"

	"flit/api"
)

// node is an object by its address, not its identity: what plain gets wrong, a graph does not get wrong in the same way.
type node struct {
	id     int
	fields []any // an int, or a *node
}

// plain is a graph as the chapter says it, slowly: of each call, its errors one by one.
type plain struct {
	roots [][]*node
	all   []*node
}

// first is the first error that applies, as the calls' errors are listed in the chapter.
func first(l ...func() api.Errno) api.Errno {
	for _, f := range l {
		if e := f(); e != api.OK {
			return e
		}
	}
	return api.OK
}

func when(yes bool, e api.Errno) api.Errno {
	if yes {
		return e
	}
	return api.OK
}

func (p *plain) thread(t int) func() api.Errno {
	return func() api.Errno { return when(t < 0 || t >= len(p.roots), api.ErrArg) }
}

func (p *plain) root(t, i int) func() api.Errno {
	return func() api.Errno { return when(i < 0 || i >= len(p.roots[t]), api.ErrRoot) }
}

func (p *plain) full(t int) func() api.Errno {
	return func() api.Errno { return when(len(p.roots[t]) == 8, api.ErrFull) }
}

func (p *plain) look(t, i, f int) func() api.Errno {
	return func() api.Errno {
		return first(p.root(t, i),
			func() api.Errno { return when(p.roots[t][i] == nil, api.ErrNil) },
			func() api.Errno { return when(f < 0 || f >= len(p.roots[t][i].fields), api.ErrField) })
	}
}

func (p *plain) srcs(t int, l ...api.Src) func() api.Errno {
	return func() api.Errno {
		for _, s := range l {
			if s.Kind != 0 && s.Kind != 1 && s.Kind != 2 || s.Kind == 0 && (s.N < 0 || s.N > 1<<40) {
				return api.ErrArg
			}
		}
		for _, s := range l {
			if s.Kind == 1 && p.root(t, s.N)() != api.OK {
				return api.ErrRoot
			}
		}
		return api.OK
	}
}

func (p *plain) named(t int, s api.Src) any {
	switch s.Kind {
	case 0:
		return s.N
	case 1:
		return p.roots[t][s.N]
	}
	return (*node)(nil)
}

func (p *plain) push(t int, n *node) {
	p.roots[t] = append(p.roots[t][:len(p.roots[t]):len(p.roots[t])], n)
}

// shape numbers by going through the list of what was met.
func (p *plain) shape() string {
	var met []*node
	number := func(n *node) int {
		if n == nil {
			return 0
		}
		for k, m := range met {
			if m == n {
				return k + 1
			}
		}
		met = append(met, n)
		return len(met)
	}
	s := api.Shape{}
	for _, l := range p.roots {
		var r []int
		for _, n := range l {
			r = append(r, number(n))
		}
		s.Roots = append(s.Roots, r)
	}
	for k := 0; k < len(met); k++ {
		var l []api.Val
		for _, x := range met[k].fields {
			if n, ok := x.(*node); ok {
				l = append(l, api.Val{Kind: 1, N: number(n)})
			} else {
				l = append(l, api.Val{N: x.(int)})
			}
		}
		s.L = append(s.L, l)
	}
	return fmt.Sprint(s)
}

// clone copies each node, and then lets the copies name one another.
func (p *plain) clone() *plain {
	q := &plain{}
	for _, n := range p.all {
		q.all = append(q.all, &node{id: n.id})
	}
	twin := func(n *node) *node {
		if n == nil {
			return nil
		}
		return q.all[n.id-1]
	}
	for k, n := range p.all {
		for _, x := range n.fields {
			if m, ok := x.(*node); ok {
				x = twin(m)
			}
			q.all[k].fields = append(q.all[k].fields, x)
		}
	}
	for _, l := range p.roots {
		var r []*node
		for _, n := range l {
			r = append(r, twin(n))
		}
		q.roots = append(q.roots, r)
	}
	return q
}

// walker does the same of both, and holds the answers against each other.
type walker struct {
	t    *testing.T
	rand *rand.Rand
	p    *plain
	g    *Graph
}

func (w *walker) check(call string, got, want any) {
	w.t.Helper()
	if fmt.Sprint(got) != fmt.Sprint(want) {
		w.t.Fatalf("%s: %v, want %v", call, got, want)
	}
}

// near is 0 to n, now and then one beyond that.
func (w *walker) near(n int) int {
	if w.rand.Intn(12) == 0 {
		return []int{-1, n + 1}[w.rand.Intn(2)]
	}
	return w.rand.Intn(n + 1)
}

func (w *walker) src() api.Src {
	switch w.near(2) {
	case 0:
		return api.Src{Kind: 0, N: []int{0, 1, 2, 3, 1 << 40, 0, 1, -1, 1<<40 + 1}[w.rand.Intn(9)]}
	case 1:
		return api.Src{Kind: 1, N: w.near(3)}
	case 2:
		return api.Src{Kind: 2, N: w.near(3)}
	}
	return api.Src{Kind: w.near(40) + 3}
}

type pair struct {
	v any
	e api.Errno
}

func (w *walker) step() {
	p, g := w.p, w.g
	t, i, f := w.near(len(p.roots)-1), w.near(4), w.near(2)
	switch w.rand.Intn(11) {
	case 0:
		n := w.near(7)
		e := first(p.thread(t), func() api.Errno { return when(n < 0 || n > 7, api.ErrSize) }, func() api.Errno { return p.full(t)() })
		if e == api.OK {
			p.all = append(p.all, &node{id: len(p.all) + 1})
			for range n {
				p.all[len(p.all)-1].fields = append(p.all[len(p.all)-1].fields, 0)
			}
			p.push(t, p.all[len(p.all)-1])
		}
		w.check("Alloc", g.Alloc(t, n), e)
	case 1, 2:
		v, e := g.Look(t, i, f)
		w.check("Look", pair{v, e}, w.wantLook(t, i, f))
	case 3:
		id := w.near(len(p.all))
		e := first(p.thread(t), func() api.Errno { return when(id < 0 || id > len(p.all), api.ErrArg) }, func() api.Errno { return p.full(t)() })
		if e == api.OK && id == 0 {
			p.push(t, nil)
		} else if e == api.OK {
			p.push(t, p.all[id-1])
		}
		w.check("Put", g.Put(t, id), e)
	case 4, 5:
		s := w.src()
		e := first(p.thread(t), func() api.Errno { return first(p.srcs(t, s), p.look(t, i, f)) })
		if e == api.OK {
			p.roots[t][i].fields[f] = p.named(t, s)
		}
		w.check("Write", g.Write(t, i, f, s), e)
	case 6, 7:
		exp, now := w.src(), w.src()
		yes, e := false, first(p.thread(t), func() api.Errno { return first(p.srcs(t, exp, now), p.look(t, i, f)) })
		if e == api.OK && p.roots[t][i].fields[f] == p.named(t, exp) {
			yes = true
			p.roots[t][i].fields[f] = p.named(t, now)
		}
		y, e2 := g.Swap(t, i, f, exp, now)
		w.check("Swap", pair{y, e2}, pair{yes, e})
	default:
		w.rootStep(t, i)
	}
}

func (w *walker) wantLook(t, i, f int) pair {
	e := first(w.p.thread(t), func() api.Errno { return w.p.look(t, i, f)() })
	if e != api.OK {
		return pair{api.Val{}, e}
	}
	switch x := w.p.roots[t][i].fields[f].(type) {
	case *node:
		if x == nil {
			return pair{api.Val{Kind: 1}, e}
		}
		return pair{api.Val{Kind: 1, N: x.id}, e}
	default:
		return pair{api.Val{N: x.(int)}, e}
	}
}

// rootStep is one of those that are of roots alone.
func (w *walker) rootStep(t, i int) {
	p, g := w.p, w.g
	switch w.rand.Intn(4) {
	case 0:
		k := w.near(4)
		e := first(p.thread(t), func() api.Errno { return first(p.root(t, i), p.root(t, k)) })
		yes := e == api.OK && p.roots[t][i] == p.roots[t][k]
		y, e2 := g.Eq(t, i, k)
		w.check("Eq", pair{y, e2}, pair{yes, e})
	case 1:
		e := first(p.thread(t), func() api.Errno { return first(p.root(t, i), p.full(t)) })
		if e == api.OK {
			p.push(t, p.roots[t][i])
		}
		w.check("Dup", g.Dup(t, i), e)
	default:
		e := first(p.thread(t), func() api.Errno { return p.root(t, 0)() })
		if e == api.OK {
			p.roots[t] = p.roots[t][:len(p.roots[t])-1]
		}
		w.check("Drop", g.Drop(t), e)
	}
}

// P7.1 to P7.6: long walks, of which now and then a clone goes on, and the one it was made of is held against its twin at the end.
func TestWalks(t *testing.T) {
	for seed := range int64(200) {
		r := rand.New(rand.NewSource(seed))
		threads := 1 + r.Intn(4)
		g, _ := New(threads)
		w := &walker{t: t, rand: r, p: &plain{roots: make([][]*node, threads)}, g: g}
		var left []*walker
		for k := range 600 {
			w.step()
			if k%10 == 0 {
				w.check("Shape", w.g.Shape(), w.p.shape())
			}
			if k%100 == 50 {
				left = append(left, &walker{t: t, p: w.p, g: w.g})
				w.p, w.g = w.p.clone(), w.g.Clone()
			}
		}
		for _, l := range append(left, w) {
			l.check("Shape at the end", l.g.Shape(), l.p.shape())
		}
	}
}
