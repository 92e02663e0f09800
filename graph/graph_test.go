package graph

import (
	"fmt"
	"math"
	"reflect"
	"testing"

	"flit/api"
	"flit/edges"
)

// Short ways to say what a Src names, and what a field has.
func num(n int) api.Src  { return api.Src{Kind: 0, N: n} }
func root(i int) api.Src { return api.Src{Kind: 1, N: i} }
func none() api.Src      { return api.Src{Kind: 2} }
func sc(n int) api.Val   { return api.Val{Kind: api.Scalar, N: n} }
func ref(id int) api.Val { return api.Val{Kind: api.Ref, N: id} }

// made is a graph of so many threads.
func made(t *testing.T, threads int) *Graph {
	t.Helper()
	g, e := New(threads)
	if g == nil || e != api.OK {
		t.Fatalf("New(%d): %v, error %d", threads, g, e)
	}
	return g
}

// do lets a test go on only if all that it laid out was done.
func do(t *testing.T, l ...api.Errno) {
	t.Helper()
	for i, e := range l {
		if e != api.OK {
			t.Fatalf("call %d: error %d", i, e)
		}
	}
}

// text is all that a graph keeps, so that any change is seen, that of an object that can not be come to as well.
func text(g *Graph) string { return fmt.Sprintf("%+v", *g) }

func checkErr(t *testing.T, call string, e, want api.Errno) {
	t.Helper()
	if e != want {
		t.Errorf("%s: error %d, want %d", call, e, want)
	}
}

func checkLook(t *testing.T, g *Graph, th, i, f int, want api.Val, wantErr api.Errno) {
	t.Helper()
	if v, e := g.Look(th, i, f); v != want || e != wantErr {
		t.Errorf("Look(%d, %d, %d) = %v, error %d; want %v, error %d", th, i, f, v, e, want, wantErr)
	}
}

func checkSwap(t *testing.T, g *Graph, th, i, f int, exp, now api.Src, want bool, wantErr api.Errno) {
	t.Helper()
	if y, e := g.Swap(th, i, f, exp, now); y != want || e != wantErr {
		t.Errorf("Swap(%d, %d, %d, %v, %v) = %t, error %d; want %t, error %d", th, i, f, exp, now, y, e, want, wantErr)
	}
}

func checkEq(t *testing.T, g *Graph, th, i, k int, want bool, wantErr api.Errno) {
	t.Helper()
	if y, e := g.Eq(th, i, k); y != want || e != wantErr {
		t.Errorf("Eq(%d, %d, %d) = %t, error %d; want %t, error %d", th, i, k, y, e, want, wantErr)
	}
}

func checkShape(t *testing.T, g *Graph, roots [][]int, l [][]api.Val) {
	t.Helper()
	got, want := fmt.Sprint(g.Shape()), fmt.Sprint(api.Shape{Roots: roots, L: l})
	if got != want {
		t.Errorf("shape %s, want %s", got, want)
	}
}

// far are numbers that no thread, root, field or identity of these tests has: from the bound up, and below nought.
func far(bound int) []int {
	l := []int{-1, -2, bound, bound + 1}
	for _, n := range edges.Numbers() {
		if n < 0 || n >= bound {
			l = append(l, n)
		}
	}
	return l
}

// P7.1 to P7.5: the chapter's examples; the second line goes on where the first one ends.
func TestExamples(t *testing.T) {
	g := made(t, 1)
	do(t, g.Alloc(0, 2), g.Write(0, 0, 1, root(0)))
	checkLook(t, g, 0, 0, 1, ref(1), api.OK)
	checkShape(t, g, [][]int{{1}}, [][]api.Val{{sc(0), ref(1)}})
	checkSwap(t, g, 0, 0, 0, num(0), none(), true, api.OK)
	checkSwap(t, g, 0, 0, 0, num(0), none(), false, api.OK)
	checkEq(t, g, 0, 0, 0, true, api.OK)
	checkLook(t, g, 0, 0, 2, api.Val{}, api.ErrField)
}

// P7.1: as many threads as were asked for, none with a root.
func TestNew(t *testing.T) {
	for n := 1; n <= 64; n++ {
		g := made(t, n)
		checkShape(t, g, make([][]int, n), nil)
		for th := range n {
			checkErr(t, "Drop of a new thread", g.Drop(th), api.ErrRoot)
			checkErr(t, "Put of 1, without an object", g.Put(th, 1), api.ErrArg)
		}
		checkErr(t, "Drop of the thread n", g.Drop(n), api.ErrArg)
		checkErr(t, "Alloc of the last one", g.Alloc(n-1, 1), api.OK)
	}
}

// P7.1: wrong numbers of threads.
func TestNewWrong(t *testing.T) {
	for _, n := range append(edges.Numbers(), 0, -1, -64, 65, 66, 128) {
		if n >= 1 && n <= 64 {
			continue
		}
		if g, e := New(n); g != nil || e != api.ErrArg {
			t.Errorf("New(%d): %v, error %d", n, g, e)
		}
	}
}

// P7.1: two graphs share nothing.
func TestNewEachTime(t *testing.T) {
	g, h := made(t, 2), made(t, 2)
	do(t, g.Alloc(0, 1))
	checkShape(t, g, [][]int{{1}, {}}, [][]api.Val{{sc(0)}})
	checkShape(t, h, [][]int{{}, {}}, nil)
	checkErr(t, "Put of the other's object", h.Put(0, 1), api.ErrArg)
}

// filled has two threads; those of the first are: 1 of two fields, nil, 2 of none, 1 again.
func filled(t *testing.T) *Graph {
	t.Helper()
	g := made(t, 2)
	do(t, g.Alloc(0, 2), g.Put(0, 0), g.Alloc(0, 0), g.Dup(0, 0))
	return g
}

// fillUp gives a thread nil roots till it has 8.
func fillUp(t *testing.T, g *Graph, th int) {
	t.Helper()
	for range 8 {
		if e := g.Put(th, 0); e == api.ErrFull {
			return
		}
	}
	checkErr(t, "Put of the ninth root", g.Put(th, 0), api.ErrFull)
}

// The order of errors: that there is no such thread is told ahead of all else, in each call, and nothing changes.
func TestNoThread(t *testing.T) {
	g := filled(t)
	was := text(g)
	for _, th := range far(2) {
		for _, i := range []int{0, 4, -1, math.MaxInt} {
			checkErr(t, "Alloc", g.Alloc(th, i), api.ErrArg)
			checkErr(t, "Put", g.Put(th, i), api.ErrArg)
			checkLook(t, g, th, i, i, api.Val{}, api.ErrArg)
			for _, s := range []api.Src{num(0), num(-1), root(0), root(9), none(), {Kind: 3}} {
				checkErr(t, "Write", g.Write(th, i, i, s), api.ErrArg)
				checkSwap(t, g, th, i, i, s, num(0), false, api.ErrArg)
				checkSwap(t, g, th, i, i, num(0), s, false, api.ErrArg)
			}
			checkEq(t, g, th, i, i, false, api.ErrArg)
			checkErr(t, "Dup", g.Dup(th, i), api.ErrArg)
		}
		checkErr(t, "Drop", g.Drop(th), api.ErrArg)
	}
	if now := text(g); now != was {
		t.Errorf("changed: %s, was %s", now, was)
	}
}

// P7.1: objects of each number of fields, the last root of who made them; identities go on over all threads.
func TestAlloc(t *testing.T) {
	g := made(t, 2)
	for n := 0; n <= 7; n++ {
		th, i := n%2, n/2
		do(t, g.Alloc(th, n))
		for f := range n {
			checkLook(t, g, th, i, f, sc(0), api.OK)
		}
		checkLook(t, g, th, i, n, api.Val{}, api.ErrField)
		checkLook(t, g, th, i, -1, api.Val{}, api.ErrField)
		checkErr(t, "Put of the newest", g.Put(1-th, n+1), api.OK)
		checkErr(t, "Put of one more", g.Put(1-th, n+2), api.ErrArg)
		do(t, g.Drop(1-th))
	}
	do(t, g.Write(0, 3, 5, root(3)), g.Write(1, 3, 6, root(3)))
	checkLook(t, g, 0, 3, 5, ref(7), api.OK)
	checkLook(t, g, 1, 3, 6, ref(8), api.OK)
}

// P7.1: a new object shares no field with one ahead of it.
func TestAllocIsNew(t *testing.T) {
	g := made(t, 1)
	do(t, g.Alloc(0, 2), g.Write(0, 0, 0, num(5)), g.Alloc(0, 2), g.Write(0, 1, 1, num(6)))
	checkShape(t, g, [][]int{{1, 2}}, [][]api.Val{{sc(5), sc(0)}, {sc(0), sc(6)}})
	checkEq(t, g, 0, 0, 1, false, api.OK)
}

// P7.1: wrong sizes, full roots, both at once; no identity is taken by what was not done.
func TestAllocWrong(t *testing.T) {
	g := made(t, 2)
	for _, n := range far(8) {
		checkErr(t, "Alloc of a wrong size", g.Alloc(0, n), api.ErrSize)
	}
	checkShape(t, g, [][]int{{}, {}}, nil)
	for range 8 {
		do(t, g.Alloc(0, 1))
	}
	was := text(g)
	for n := 0; n <= 7; n++ {
		checkErr(t, "Alloc of full roots", g.Alloc(0, n), api.ErrFull)
	}
	for _, n := range far(8) {
		checkErr(t, "Alloc of a wrong size, of full roots", g.Alloc(0, n), api.ErrSize)
	}
	if now := text(g); now != was {
		t.Errorf("changed: %s, was %s", now, was)
	}
	do(t, g.Alloc(1, 1), g.Write(1, 0, 0, root(0)))
	checkLook(t, g, 1, 0, 0, ref(9), api.OK)
}

// P7.2: each error of Look, alone and with those behind it.
func TestLookWrong(t *testing.T) {
	g := filled(t)
	for _, i := range far(4) {
		for _, f := range []int{0, -1, 2, math.MaxInt} {
			checkLook(t, g, 0, i, f, api.Val{}, api.ErrRoot)
		}
	}
	for _, f := range append(far(0), 0) {
		checkLook(t, g, 0, 1, f, api.Val{}, api.ErrNil)
		checkLook(t, g, 0, 2, f, api.Val{}, api.ErrField)
		checkLook(t, g, 1, 0, f, api.Val{}, api.ErrRoot)
	}
	for _, f := range far(2) {
		checkLook(t, g, 0, 0, f, api.Val{}, api.ErrField)
	}
}

// P7.2: what a field has, of each kind; a nil reference is not the scalar 0.
func TestLook(t *testing.T) {
	g := filled(t)
	do(t, g.Write(0, 0, 0, num(1<<40)), g.Write(0, 0, 1, root(2)))
	for _, i := range []int{0, 3} {
		checkLook(t, g, 0, i, 0, sc(1<<40), api.OK)
		checkLook(t, g, 0, i, 1, ref(2), api.OK)
	}
	do(t, g.Write(0, 0, 0, none()))
	checkLook(t, g, 0, 3, 0, ref(0), api.OK)
	do(t, g.Write(0, 0, 0, num(0)))
	checkLook(t, g, 0, 3, 0, sc(0), api.OK)
	was := text(g)
	checkLook(t, g, 0, 0, 1, ref(2), api.OK)
	if text(g) != was {
		t.Error("a Look changed the graph")
	}
}

// P7.2: nil and each object, of whichever thread made it, and also if nothing comes to it any more.
func TestPut(t *testing.T) {
	g := made(t, 2)
	do(t, g.Alloc(0, 1), g.Write(0, 0, 0, num(5)), g.Alloc(1, 1), g.Drop(0))
	do(t, g.Put(1, 1), g.Put(1, 0), g.Put(1, 2))
	checkLook(t, g, 1, 1, 0, sc(5), api.OK)
	checkLook(t, g, 1, 2, 0, api.Val{}, api.ErrNil)
	checkEq(t, g, 1, 0, 3, true, api.OK)
	checkShape(t, g, [][]int{{}, {1, 2, 0, 1}}, [][]api.Val{{sc(0)}, {sc(5)}})
}

// P7.2: wrong identities, full roots, and both at once.
func TestPutWrong(t *testing.T) {
	g := filled(t)
	for _, id := range far(3) {
		checkErr(t, "Put of no object", g.Put(0, id), api.ErrArg)
		checkErr(t, "Put of no object", g.Put(1, id), api.ErrArg)
	}
	do(t, g.Put(1, 2), g.Drop(1))
	fillUp(t, g, 0)
	was := text(g)
	for id := 0; id <= 2; id++ {
		checkErr(t, "Put to full roots", g.Put(0, id), api.ErrFull)
	}
	for _, id := range far(3) {
		checkErr(t, "Put of no object to full roots", g.Put(0, id), api.ErrArg)
	}
	if now := text(g); now != was {
		t.Errorf("changed: %s, was %s", now, was)
	}
}

// P7.3: a Src of each kind; N of nil has no meaning. Only that field changes.
func TestWrite(t *testing.T) {
	for _, x := range []struct {
		s    api.Src
		want api.Val
	}{
		{num(0), sc(0)}, {num(1), sc(1)}, {num(1<<40 - 1), sc(1<<40 - 1)}, {num(1 << 40), sc(1 << 40)},
		{root(0), ref(1)}, {root(1), ref(0)}, {root(2), ref(2)}, {root(3), ref(1)},
		{none(), ref(0)}, {api.Src{Kind: 2, N: 2}, ref(0)}, {api.Src{Kind: 2, N: -1}, ref(0)}, {api.Src{Kind: 2, N: math.MaxInt}, ref(0)},
	} {
		for f := range 2 {
			g := filled(t)
			do(t, g.Write(0, 0, 0, num(7)), g.Write(0, 0, 1, num(7)))
			checkErr(t, "Write", g.Write(0, 0, f, x.s), api.OK)
			checkLook(t, g, 0, 0, f, x.want, api.OK)
			checkLook(t, g, 0, 3, f, x.want, api.OK)
			checkLook(t, g, 0, 0, 1-f, sc(7), api.OK)
		}
	}
}

// P7.3: the root is one of the thread that writes, not of another one.
func TestWriteOfOwnRoot(t *testing.T) {
	g := made(t, 2)
	do(t, g.Alloc(0, 1), g.Alloc(1, 1), g.Put(1, 1), g.Write(1, 1, 0, root(0)))
	checkLook(t, g, 0, 0, 0, ref(2), api.OK)
	checkErr(t, "Write of the other's root", g.Write(0, 0, 0, root(1)), api.ErrRoot)
}

// badSrc are those by which ErrArg is told, whatever else is wrong.
func badSrc() []api.Src {
	var l []api.Src
	for _, n := range edges.Numbers() {
		if n < 0 || n > 1<<40 {
			l = append(l, num(n))
		}
		if n < 0 || n > 2 {
			l = append(l, api.Src{Kind: n}, api.Src{Kind: n, N: -1})
		}
	}
	return append(l, num(-1), num(1<<40+1), api.Src{Kind: -1}, api.Src{Kind: 3})
}

// lostSrc are those by which ErrRoot is told, of a thread with 4 roots.
func lostSrc() []api.Src {
	var l []api.Src
	for _, i := range far(4) {
		l = append(l, root(i))
	}
	return l
}

// place is a root and a field, and the error that Look of filled has there.
type place struct {
	i, f int
	e    api.Errno
}

func somePlaces() []place {
	return []place{{0, 1, api.OK}, {0, 2, api.ErrField}, {0, -1, api.ErrField}, {2, 0, api.ErrField}, {1, 0, api.ErrNil}, {1, 9, api.ErrNil}, {4, 0, api.ErrRoot}, {-1, 9, api.ErrRoot}}
}

// P7.3 and the order of errors: each wrong Src, at each place; nothing changes with an error.
func TestWriteWrong(t *testing.T) {
	g := filled(t)
	was := text(g)
	for _, p := range somePlaces() {
		for _, s := range badSrc() {
			checkErr(t, fmt.Sprint("Write ", p, s), g.Write(0, p.i, p.f, s), api.ErrArg)
		}
		for _, s := range lostSrc() {
			checkErr(t, fmt.Sprint("Write ", p, s), g.Write(0, p.i, p.f, s), api.ErrRoot)
		}
		for _, s := range []api.Src{num(5), root(0), root(1), none()} {
			if p.e != api.OK {
				checkErr(t, fmt.Sprint("Write ", p, s), g.Write(0, p.i, p.f, s), p.e)
			}
		}
	}
	if now := text(g); now != was {
		t.Errorf("changed: %s, was %s", now, was)
	}
}

// P7.3: what a field has, against what is expected; only if that is the same does it change.
func TestSwap(t *testing.T) {
	has := []api.Src{num(0), num(1), num(2), num(1 << 40), root(0), root(2), none()}
	exps := append([]api.Src{root(1), root(3), {Kind: 2, N: 5}}, has...)
	same := func(a, b api.Src) bool { // of filled, 0 and 3 are one object, and 1 is nil
		if a == root(3) {
			a = root(0)
		}
		if a == root(1) || a.Kind == 2 {
			a = none()
		}
		return a == b
	}
	for _, h := range has {
		for _, exp := range exps {
			for _, now := range has {
				g, want := filled(t), filled(t)
				do(t, g.Write(0, 0, 1, h), want.Write(0, 0, 1, h))
				yes := same(exp, h)
				if yes {
					do(t, want.Write(0, 0, 1, now))
				}
				checkSwap(t, g, 0, 0, 1, exp, now, yes, api.OK)
				if got := text(g); got != text(want) {
					t.Fatalf("Swap of %v, %v by %v: %s, want %s", h, exp, now, got, text(want))
				}
			}
		}
	}
}

// P7.3: a Swap by what is there already is one that found what it expects, as often as it is done.
func TestSwapAgain(t *testing.T) {
	g := filled(t)
	checkSwap(t, g, 0, 0, 0, num(0), num(0), true, api.OK)
	checkSwap(t, g, 0, 0, 0, num(0), root(2), true, api.OK)
	checkSwap(t, g, 0, 3, 0, num(0), root(2), false, api.OK)
	checkSwap(t, g, 0, 3, 0, root(2), root(1), true, api.OK)
	checkSwap(t, g, 0, 0, 0, num(0), num(1), false, api.OK)
	checkSwap(t, g, 0, 0, 0, none(), num(1), true, api.OK)
	checkLook(t, g, 0, 0, 0, sc(1), api.OK)
	checkLook(t, g, 0, 0, 1, sc(0), api.OK)
}

// P7.3 and the order of errors: ErrArg of either Src, then ErrRoot of either, then Look's; nothing changes with an error.
func TestSwapWrong(t *testing.T) {
	g := filled(t)
	was := text(g)
	srcs := map[api.Errno][]api.Src{
		api.OK:      {num(0), num(1 << 40), root(0), root(1), none()},
		api.ErrArg:  badSrc(),
		api.ErrRoot: lostSrc(),
	}
	for _, p := range somePlaces() {
		for a, exps := range srcs {
			for b, nows := range srcs {
				want := p.e
				switch {
				case a == api.ErrArg || b == api.ErrArg:
					want = api.ErrArg
				case a == api.ErrRoot || b == api.ErrRoot:
					want = api.ErrRoot
				}
				if want == api.OK {
					continue
				}
				for k := range max(len(exps), len(nows)) {
					exp, now := exps[k%len(exps)], nows[k%len(nows)]
					checkSwap(t, g, 0, p.i, p.f, exp, now, false, want)
				}
			}
		}
	}
	if now := text(g); now != was {
		t.Errorf("changed: %s, was %s", now, was)
	}
}

// P7.4: objects and nil; two objects that look the same are not.
func TestEq(t *testing.T) {
	g := filled(t)
	do(t, g.Put(0, 0), g.Alloc(0, 2))
	names := []int{1, 0, 2, 1, 0, 3}
	for i, a := range names {
		for k, b := range names {
			checkEq(t, g, 0, i, k, a == b, api.OK)
		}
	}
	for _, i := range far(6) {
		checkEq(t, g, 0, i, 0, false, api.ErrRoot)
		checkEq(t, g, 0, 0, i, false, api.ErrRoot)
		checkEq(t, g, 0, i, i, false, api.ErrRoot)
	}
	checkEq(t, g, 1, 0, 0, false, api.ErrRoot)
}

// P7.4: each root, an object or nil; ErrRoot ahead of ErrFull.
func TestDup(t *testing.T) {
	for i := range 4 {
		g := filled(t)
		checkErr(t, "Dup", g.Dup(0, i), api.OK)
		for k := range 4 {
			checkEq(t, g, 0, 4, k, k == i || k+i == 3 && k*i == 0, api.OK)
		}
		fillUp(t, g, 0)
		was := text(g)
		checkErr(t, "Dup of full roots", g.Dup(0, i), api.ErrFull)
		for _, k := range far(8) {
			checkErr(t, "Dup of no root, of full roots", g.Dup(0, k), api.ErrRoot)
		}
		if text(g) != was {
			t.Error("a Dup that was not done changed the graph")
		}
	}
	g := filled(t)
	for _, i := range far(4) {
		checkErr(t, "Dup of no root", g.Dup(0, i), api.ErrRoot)
	}
	checkErr(t, "Dup of no root", g.Dup(1, 0), api.ErrRoot)
	checkShape(t, g, [][]int{{1, 0, 2, 1}, {}}, [][]api.Val{{sc(0), sc(0)}, {}})
}

// P7.4: the last one first, till there is none; the other thread keeps its own.
func TestDrop(t *testing.T) {
	g := filled(t)
	do(t, g.Put(1, 2))
	for _, want := range [][]int{{1, 0, 2}, {1, 0}, {1}} {
		checkErr(t, "Drop", g.Drop(0), api.OK)
		l := [][]api.Val{{sc(0), sc(0)}, {}}
		checkShape(t, g, [][]int{want, {2}}, l)
	}
	checkErr(t, "Drop", g.Drop(0), api.OK)
	checkShape(t, g, [][]int{{}, {1}}, [][]api.Val{{}})
	checkErr(t, "Drop of none", g.Drop(0), api.ErrRoot)
	checkErr(t, "Drop", g.Drop(1), api.OK)
	checkErr(t, "Drop of none", g.Drop(1), api.ErrRoot)
	checkShape(t, g, [][]int{{}, {}}, nil)
}

// P7.4: after full roots were dropped to 7, there is room again, and what is put there is the last one.
func TestDropMakesRoom(t *testing.T) {
	g := filled(t)
	fillUp(t, g, 0)
	do(t, g.Drop(0), g.Alloc(0, 1), g.Drop(0), g.Dup(0, 2))
	checkShape(t, g, [][]int{{1, 0, 2, 1, 0, 0, 0, 2}, {}}, [][]api.Val{{sc(0), sc(0)}, {}})
}

// P7.5: objects that name themselves and one another; breadth goes ahead of depth.
func TestShapeOfFields(t *testing.T) {
	g := made(t, 1)
	for range 6 {
		do(t, g.Alloc(0, 3))
	}
	link := func(from, f, to int) { do(t, g.Write(0, from, f, root(to))) }
	link(0, 0, 4)
	link(0, 2, 2)
	link(4, 1, 5)
	link(4, 2, 4)
	link(2, 0, 0)
	link(2, 1, 1)
	link(5, 0, 2)
	link(1, 0, 5)
	do(t, g.Write(0, 0, 1, num(9)), g.Write(0, 4, 0, none()))
	for range 5 {
		do(t, g.Drop(0))
	}
	checkShape(t, g, [][]int{{1}}, [][]api.Val{
		{ref(2), sc(9), ref(3)},
		{ref(0), ref(4), ref(2)},
		{ref(1), ref(5), sc(0)},
		{ref(3), sc(0), sc(0)},
		{ref(4), sc(0), sc(0)},
	})
}

// P7.5: all roots of all threads are met ahead of any field; the same object has one number; nil none; threads without roots are told.
func TestShapeOfRoots(t *testing.T) {
	g := made(t, 4)
	do(t, g.Alloc(3, 1), g.Alloc(1, 1), g.Alloc(1, 0), g.Alloc(2, 0))
	do(t, g.Write(1, 0, 0, root(1)), g.Drop(1))
	do(t, g.Put(1, 0), g.Put(1, 2), g.Put(3, 4), g.Put(3, 0), g.Put(3, 2), g.Put(2, 1))
	checkShape(t, g, [][]int{{}, {1, 0, 1}, {2, 3}, {3, 2, 0, 1}}, [][]api.Val{{ref(4)}, {}, {sc(0)}, {}})
}

// P7.5: a scalar is told as it is, though it is an object's identity.
func TestShapeOfScalars(t *testing.T) {
	g := made(t, 1)
	do(t, g.Alloc(0, 0), g.Drop(0), g.Alloc(0, 4))
	for f, n := range []int{1, 2, 3, 1 << 40} {
		do(t, g.Write(0, 0, f, num(n)))
	}
	checkShape(t, g, [][]int{{1}}, [][]api.Val{{sc(1), sc(2), sc(3), sc(1 << 40)}})
}

// P7.5: a long chain is gone through to its end, and each object, though it names itself too, is met once.
func TestShapeOfManyObjects(t *testing.T) {
	const many = 20000
	g := made(t, 1)
	do(t, g.Alloc(0, 2))
	for id := 2; id <= many; id++ {
		do(t, g.Alloc(0, 2), g.Write(0, 1, 0, root(1)), g.Write(0, 1, 1, root(0)))
		do(t, g.Drop(0), g.Drop(0), g.Put(0, id))
	}
	s := g.Shape()
	if len(s.L) != many {
		t.Fatalf("%d objects", len(s.L))
	}
	for k, l := range s.L[:many-1] {
		if l[0] != ref(k+1) || l[1] != ref(k+2) {
			t.Fatalf("the object %d: %v", k+1, l)
		}
	}
	if l := s.L[many-1]; l[0] != sc(0) || l[1] != sc(0) {
		t.Errorf("the last object: %v", l)
	}
}

// P7.5, R7: what Shape answers is the caller's own; no two of its lists share memory, the room behind their ends too.
func TestShapeIsOwn(t *testing.T) {
	g := filled(t)
	do(t, g.Write(0, 0, 0, root(2)), g.Alloc(1, 7))
	want := fmt.Sprint(g.Shape())
	s := g.Shape()
	for i := range s.Roots {
		l := s.Roots[i][:cap(s.Roots[i])]
		for k := range l {
			l[k] += 100 * (i + 1)
		}
	}
	for i := range s.L {
		l := s.L[i][:cap(s.L[i])]
		for k := range l {
			l[k].N += 100 * (i + 1)
		}
	}
	if now := fmt.Sprint(g.Shape()); now != want {
		t.Errorf("shape %s, was %s", now, want)
	}
	for i, l := range s.Roots {
		for _, n := range l {
			if n/100 != i+1 {
				t.Errorf("roots of %d: %v", i, l)
			}
		}
	}
	for i, l := range s.L {
		for _, v := range l {
			if v.N/100 != i+1 {
				t.Errorf("object %d: %v", i+1, l)
			}
		}
	}
}

// goOn does something of each kind.
func goOn(t *testing.T, g *Graph) {
	t.Helper()
	do(t, g.Write(0, 0, 0, num(77)), g.Alloc(0, 3), g.Write(0, 4, 2, root(0)), g.Put(1, 2), g.Dup(1, 0), g.Drop(0))
	checkSwap(t, g, 0, 0, 1, num(0), root(2), true, api.OK)
	do(t, g.Drop(0))
}

// P7.5, R7: a clone has the same; one goes on, and the other stays, whichever it is.
func TestClone(t *testing.T) {
	for _, which := range []string{"clone", "original"} {
		g := filled(t)
		do(t, g.Write(0, 0, 0, root(2)), g.Alloc(1, 4), g.Drop(1))
		c := g.Clone()
		if c == nil || c == g || text(c) != text(g) {
			t.Fatalf("clone %v of %v", c, g)
		}
		on, stays := c, g
		if which == "original" {
			on, stays = g, c
		}
		was := text(stays)
		goOn(t, on)
		if now := text(stays); now != was {
			t.Errorf("the %s went on: the other is %s, was %s", which, now, was)
		}
		goOn(t, stays)
		if text(on) != text(stays) {
			t.Errorf("both went on in the same way: %s, %s", text(on), text(stays))
		}
	}
}

// P7.5, R7: two that both make objects, from the same room on.
func TestCloneAlloc(t *testing.T) {
	g := made(t, 1)
	for n := range 20 {
		c := g.Clone()
		do(t, g.Alloc(0, 1), g.Write(0, 0, 0, num(n)))
		do(t, c.Alloc(0, 2), c.Write(0, 0, 1, num(1000+n)), c.Alloc(0, 3))
		checkShape(t, g, [][]int{{1}}, [][]api.Val{{sc(n)}})
		checkShape(t, c, [][]int{{1, 2}}, [][]api.Val{{sc(0), sc(1000 + n)}, {sc(0), sc(0), sc(0)}})
		do(t, g.Drop(0))
	}
}

// P7.6: what is made and dropped leaves the shape as it was, whatever it names.
func TestUnreachedDoesNotChangeShape(t *testing.T) {
	g := filled(t)
	do(t, g.Write(0, 0, 1, root(2)), g.Put(1, 1))
	want := fmt.Sprint(g.Shape())
	check := func(what string) {
		t.Helper()
		if got := fmt.Sprint(g.Shape()); got != want {
			t.Errorf("%s: shape %s, want %s", what, got, want)
		}
	}
	do(t, g.Alloc(1, 2), g.Write(1, 1, 0, root(0)), g.Write(1, 1, 1, root(1)), g.Drop(1))
	check("an object that names itself and another one")
	do(t, g.Put(1, 3), g.Write(1, 1, 0, num(8)), g.Drop(1))
	check("a field of it that changed")
	do(t, g.Alloc(1, 1), g.Alloc(1, 1), g.Write(1, 1, 0, root(2)), g.Write(1, 2, 0, root(1)), g.Drop(1), g.Drop(1))
	check("two that name one another")
}

// P7.6: what was cut off is told no more, and comes back as it is, if it is put.
func TestCutOff(t *testing.T) {
	g := made(t, 1)
	do(t, g.Alloc(0, 1), g.Alloc(0, 1), g.Alloc(0, 0), g.Write(0, 1, 0, root(2)), g.Write(0, 0, 0, root(1)), g.Drop(0), g.Drop(0))
	checkShape(t, g, [][]int{{1}}, [][]api.Val{{ref(2)}, {ref(3)}, {}})
	do(t, g.Write(0, 0, 0, none()))
	checkShape(t, g, [][]int{{1}}, [][]api.Val{{ref(0)}})
	do(t, g.Put(0, 2))
	checkShape(t, g, [][]int{{1, 2}}, [][]api.Val{{ref(0)}, {ref(3)}, {}})
}

// P7.6: the same is made several times, with more and more objects in between that are dropped; identities differ, shapes do not.
func TestShapeWithoutIdentities(t *testing.T) {
	want := fmt.Sprint(withWaste(t, 0).Shape())
	for n := 1; n <= 3; n++ {
		if got := fmt.Sprint(withWaste(t, n).Shape()); got != want {
			t.Errorf("shape %s, want %s", got, want)
		}
	}
}

func withWaste(t *testing.T, between int) *Graph {
	t.Helper()
	g := made(t, 2)
	waste := func(last int) {
		for range between {
			do(t, g.Alloc(0, 7), g.Write(0, last, 3, root(last)), g.Write(0, last, 4, root(0)), g.Drop(0))
		}
	}
	waste(0)
	do(t, g.Alloc(0, 2))
	waste(1)
	do(t, g.Alloc(1, 1), g.Alloc(1, 3), g.Write(1, 1, 2, root(0)), g.Write(1, 0, 0, root(1)))
	waste(1)
	do(t, g.Write(0, 0, 1, root(0)))
	return g
}

// R1: a graph that New did not make has no thread, and none of its calls panics.
func TestZeroGraph(t *testing.T) {
	var g Graph
	checkErr(t, "Alloc", g.Alloc(0, 1), api.ErrArg)
	checkErr(t, "Put", g.Put(0, 0), api.ErrArg)
	checkErr(t, "Dup", g.Dup(0, 0), api.ErrArg)
	checkErr(t, "Drop", g.Drop(0), api.ErrArg)
	checkErr(t, "Write", g.Write(0, 0, 0, none()), api.ErrArg)
	checkLook(t, &g, 0, 0, 0, api.Val{}, api.ErrArg)
	checkSwap(t, &g, 0, 0, 0, none(), none(), false, api.ErrArg)
	checkEq(t, &g, 0, 0, 0, false, api.ErrArg)
	checkShape(t, g.Clone(), nil, nil)
}

// R1: whatever is given, no call panics.
func TestNothingPanics(t *testing.T) {
	g := filled(t)
	for _, n := range edges.Numbers() {
		for _, m := range []int{-1, 0, 1, 7, 8, n} {
			New(n)
			g.Alloc(n, m)
			g.Put(m, n)
			g.Look(m, n, m)
			g.Look(0, m, n)
			g.Write(m, 0, n, api.Src{Kind: m, N: n})
			g.Swap(0, m, n, api.Src{Kind: n, N: m}, api.Src{Kind: m, N: n})
			g.Swap(0, 0, m, api.Src{Kind: m, N: n}, api.Src{Kind: 1, N: n})
			g.Eq(0, m, n)
			g.Dup(m, n)
			g.Drop(n)
			g.Shape()
		}
	}
}

// R6: the same calls of two graphs have the same answers, and a Shape is the same each time it is asked.
func TestSameAnswers(t *testing.T) {
	g := filled(t)
	goOn(t, g)
	for range 100 {
		h := filled(t)
		goOn(t, h)
		if !reflect.DeepEqual(g.Shape(), h.Shape()) {
			t.Fatal("two shapes of the same calls")
		}
	}
}
