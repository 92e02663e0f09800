package roots

import (
	"math"
	"testing"

	"flit/api"
	"flit/edges"
)

// of are the roots that a list names.
func of(l ...int) api.Roots {
	r := api.Roots{N: len(l)}
	copy(r.L[:], l)
	return r
}

// some are n numbers of which no two are the same: the one at i is 10 and i.
func some(n int) []int {
	var l []int
	for i := range n {
		l = append(l, 10+i)
	}
	return l
}

// full are roots that have no room.
func full() api.Roots { return of(some(8)...) }

// wrongRoots are those that may not be: by N, by what stands behind the first N, and by both.
func wrongRoots() []api.Roots {
	l := []api.Roots{
		{N: 0, L: [8]int{5}},
		{N: 0, L: [8]int{7: 5}},
		{N: 1, L: [8]int{0, 5}},
		{N: 1, L: [8]int{5, -1}},
		{N: 1, L: [8]int{5, 7: 5}},
		{N: 7, L: full().L},
		{N: 7, L: [8]int{7: math.MinInt}},
	}
	for _, n := range append(edges.Numbers(), -1, -8, 9, 16) {
		if n < 0 || n > 8 {
			l = append(l, api.Roots{N: n}, api.Roots{N: n, L: full().L}, api.Roots{N: n, L: [8]int{5}})
		}
	}
	return l
}

// eachRoots does of all roots, those that may not be too, with N of -2 to 10, and L of the numbers 0, 1 and -1.
func eachRoots(do func(r api.Roots)) {
	for n := -2; n <= 10; n++ {
		for code := range 6561 {
			r := api.Roots{N: n}
			for i := range r.L {
				r.L[i] = code%3 - 1
				code /= 3
			}
			do(r)
		}
	}
}

// right tells, number by number, whether roots may be.
func right(r api.Roots) bool {
	for i, a := range r.L {
		if i >= r.N && a != 0 {
			return false
		}
	}
	return r.N >= 0 && r.N <= 8
}

// checkRoots holds the roots that a call answered against those that were wanted; with an error these are zero.
func checkRoots(t *testing.T, call string, r api.Roots, e api.Errno, want api.Roots, wantErr api.Errno) {
	t.Helper()
	if r != want || e != wantErr {
		t.Fatalf("%s = %+v, error %d; want %+v, error %d", call, r, e, want, wantErr)
	}
}

// P6.1: the chapter's examples, in their order.
func TestExamples(t *testing.T) {
	var none api.Roots
	that, e := Push(none, 5)
	checkRoots(t, "Push(none, 5)", that, e, api.Roots{N: 1, L: [8]int{5}}, api.OK)
	if a, e := Get(that, 0); a != 5 || e != api.OK {
		t.Errorf("Get(that, 0) = %d, error %d", a, e)
	}
	if a, e := Get(that, 1); a != 0 || e != api.ErrRoot {
		t.Errorf("Get(that, 1) = %d, error %d", a, e)
	}
	two, e := Dup(that, 0)
	checkRoots(t, "Dup(that, 0)", two, e, api.Roots{N: 2, L: [8]int{5, 5}}, api.OK)
	r, e := Drop(none)
	checkRoots(t, "Drop(none)", r, e, none, api.ErrRoot)
}

// P6.1: from none to full, with any number, and no further.
func TestPush(t *testing.T) {
	for n := range 8 {
		for _, a := range edges.Numbers() {
			r, e := Push(of(some(n)...), a)
			checkRoots(t, "Push", r, e, of(append(some(n), a)...), api.OK)
		}
	}
	for _, a := range edges.Numbers() {
		r, e := Push(full(), a)
		checkRoots(t, "Push of full roots", r, e, api.Roots{}, api.ErrFull)
		r, e = Push(api.Roots{N: 8}, a)
		checkRoots(t, "Push of full roots, all nil", r, e, api.Roots{}, api.ErrFull)
	}
}

// P6.1: from full to none, and no further; nought stands where the last one stood.
func TestDrop(t *testing.T) {
	for n := 1; n <= 8; n++ {
		r, e := Drop(of(some(n)...))
		checkRoots(t, "Drop", r, e, of(some(n-1)...), api.OK)
		r, e = Drop(api.Roots{N: n})
		checkRoots(t, "Drop of nils", r, e, api.Roots{N: n - 1}, api.OK)
	}
	r, e := Drop(api.Roots{})
	checkRoots(t, "Drop of none", r, e, api.Roots{}, api.ErrRoot)
}

// places are those around the bounds, and far off.
func places() []int {
	l := edges.Numbers()
	for i := -9; i <= 17; i++ {
		l = append(l, i)
	}
	return l
}

// P6.1: of each N, each place that there is, and those that there are not.
func TestGet(t *testing.T) {
	for n := 0; n <= 8; n++ {
		r := of(some(n)...)
		for _, i := range places() {
			want, wantErr := 0, api.ErrRoot
			if i >= 0 && i < n {
				want, wantErr = 10+i, api.OK
			}
			if a, e := Get(r, i); a != want || e != wantErr {
				t.Fatalf("Get(%+v, %d) = %d, error %d; want %d, error %d", r, i, a, e, want, wantErr)
			}
		}
	}
	for n := 1; n <= 8; n++ {
		if a, e := Get(api.Roots{N: n}, n-1); a != 0 || e != api.OK {
			t.Errorf("Get of a nil, the last of %d: %d, error %d", n, a, e)
		}
	}
}

// P6.1: as Get; of full roots ErrFull, but of a place that there is not ErrRoot.
func TestDup(t *testing.T) {
	for n := 0; n <= 8; n++ {
		r := of(some(n)...)
		for _, i := range places() {
			want, wantErr := api.Roots{}, api.ErrRoot
			switch there := i >= 0 && i < n; {
			case there && n == 8:
				wantErr = api.ErrFull
			case there:
				want, wantErr = of(append(some(n), 10+i)...), api.OK
			}
			got, e := Dup(r, i)
			checkRoots(t, "Dup", got, e, want, wantErr)
		}
	}
	r, e := Dup(api.Roots{N: 2}, 1)
	checkRoots(t, "Dup of a nil", r, e, api.Roots{N: 3}, api.OK)
}

// checkArg: each call but Move tells ErrArg, whatever else is wrong.
func checkArg(t *testing.T, x api.Roots) {
	t.Helper()
	for _, i := range []int{-1, 0, 1, 7, 8, x.N - 1, x.N, math.MinInt, math.MaxInt} {
		r, e := Push(x, i)
		checkRoots(t, "Push", r, e, api.Roots{}, api.ErrArg)
		r, e = Dup(x, i)
		checkRoots(t, "Dup", r, e, api.Roots{}, api.ErrArg)
		if a, e := Get(x, i); a != 0 || e != api.ErrArg {
			t.Fatalf("Get(%+v, %d) = %d, error %d", x, i, a, e)
		}
	}
	r, e := Drop(x)
	checkRoots(t, "Drop", r, e, api.Roots{}, api.ErrArg)
}

// P6.1: of roots that may not be; and only of those.
func TestRootsThatMayNotBe(t *testing.T) {
	for _, x := range wrongRoots() {
		checkArg(t, x)
	}
	eachRoots(func(x api.Roots) {
		if !right(x) {
			checkArg(t, x)
			return
		}
		_, push := Push(x, 1)
		_, drop := Drop(x)
		_, get := Get(x, 0)
		_, dup := Dup(x, 0)
		for _, e := range []api.Errno{push, drop, get, dup} {
			if e == api.ErrArg {
				t.Fatalf("%+v may be: errors %d, %d, %d, %d", x, push, drop, get, dup)
			}
		}
	})
}

// P6.2: by hand.
func TestMove(t *testing.T) {
	for _, x := range []struct {
		name     string
		r        api.Roots
		from, to int
		want     api.Roots
	}{
		{"none", of(), 5, 6, of()},
		{"once", of(4, 5, 6), 5, 9, of(4, 9, 6)},
		{"the first", of(4, 5, 6), 4, 9, of(9, 5, 6)},
		{"the last", of(4, 5, 6), 6, 9, of(4, 5, 9)},
		{"several times", of(5, 4, 5, 5), 5, 9, of(9, 4, 9, 9)},
		{"all of full ones", of(5, 5, 5, 5, 5, 5, 5, 5), 5, 9, of(9, 9, 9, 9, 9, 9, 9, 9)},
		{"not at all", of(4, 5, 6), 7, 9, of(4, 5, 6)},
		{"from it to itself", of(4, 5, 5), 5, 5, of(4, 5, 5)},
		{"to one that is there", of(4, 5, 6), 4, 6, of(6, 5, 6)},
		{"to nil", of(4, 5, 4), 4, 0, of(0, 5, 0)},
		{"from nil", of(4, 0, 0), 0, 9, of(4, 9, 9)},
		{"from nil that is only behind", of(4, 5), 0, 9, of(4, 5)},
		{"from nil of none", of(), 0, 9, of()},
		{"from below nought", of(-4, 4), -4, -9, of(-9, 4)},
		{"the greatest and the least", of(math.MinInt, math.MaxInt), math.MinInt, math.MaxInt, of(math.MaxInt, math.MaxInt)},
		{"N below nought", api.Roots{N: -1, L: [8]int{5, 7: 5}}, 5, 9, api.Roots{N: -1, L: [8]int{5, 7: 5}}},
		{"the least N", api.Roots{N: math.MinInt, L: [8]int{5}}, 5, 9, api.Roots{N: math.MinInt, L: [8]int{5}}},
		{"N of 9", api.Roots{N: 9, L: [8]int{5, 7: 5}}, 5, 9, api.Roots{N: 9, L: [8]int{9, 7: 9}}},
		{"N of 9, nil", api.Roots{N: 9, L: [8]int{5, 7: 5}}, 0, 9, api.Roots{N: 9, L: [8]int{5, 9, 9, 9, 9, 9, 9, 5}}},
		{"the greatest N", api.Roots{N: math.MaxInt, L: [8]int{5, 7: 5}}, 5, 9, api.Roots{N: math.MaxInt, L: [8]int{9, 7: 9}}},
		{"what is behind", api.Roots{N: 1, L: [8]int{5, 5, 7: 5}}, 5, 9, api.Roots{N: 1, L: [8]int{9, 5, 7: 5}}},
		{"what is behind none", api.Roots{N: 0, L: [8]int{5, 5}}, 5, 9, api.Roots{N: 0, L: [8]int{5, 5}}},
	} {
		if got := Move(x.r, x.from, x.to); got != x.want {
			t.Errorf("%s: Move(%+v, %d, %d) = %+v, want %+v", x.name, x.r, x.from, x.to, got, x.want)
		}
	}
}

// P6.2: of all roots, those that may not be too.
func TestMoveOfEach(t *testing.T) {
	eachRoots(func(x api.Roots) {
		for _, m := range [][2]int{{1, 9}, {0, 9}, {1, 0}, {0, 1}, {1, -1}, {1, 1}, {0, 0}, {7, 9}} {
			want := x
			for i, a := range x.L {
				if i < x.N && a == m[0] {
					want.L[i] = m[1]
				}
			}
			if got := Move(x, m[0], m[1]); got != want {
				t.Fatalf("Move(%+v, %d, %d) = %+v, want %+v", x, m[0], m[1], got, want)
			}
		}
	})
}

// P6.3: of all roots that may be and have room, and of any number.
func TestDropOfPush(t *testing.T) {
	check := func(x api.Roots, a int) {
		t.Helper()
		p, e := Push(x, a)
		if e != api.OK {
			t.Fatalf("Push(%+v, %d): error %d", x, a, e)
		}
		if got, e := Get(p, p.N-1); got != a || e != api.OK {
			t.Fatalf("Get of what was pushed last, %d to %+v: %d, error %d", a, x, got, e)
		}
		r, e := Drop(p)
		checkRoots(t, "Drop of Push", r, e, x, api.OK)
	}
	eachRoots(func(x api.Roots) {
		if !right(x) || x.N == 8 {
			return
		}
		for _, a := range []int{0, 1, -1, 2} {
			check(x, a)
		}
	})
	for _, a := range edges.Numbers() {
		check(api.Roots{}, a)
		check(of(some(7)...), a)
	}
}

// R7: the roots that are handed in stay as they were.
func TestHandedInIsKept(t *testing.T) {
	r := of(some(7)...)
	was := r
	Push(r, 5)
	Drop(r)
	Get(r, 0)
	Dup(r, 0)
	Move(r, 10, 5)
	if r != was {
		t.Errorf("%+v, was %+v", r, was)
	}
}

// R1: whatever is given, no call panics.
func TestNothingPanics(t *testing.T) {
	for _, n := range edges.Numbers() {
		for _, m := range []int{-1, 0, 7, 8, n} {
			for _, r := range []api.Roots{{N: n}, {N: n, L: [8]int{m, n, m, n, m, n, m, n}}, {N: m, L: [8]int{n, m}}} {
				Push(r, m)
				Drop(r)
				Get(r, n)
				Dup(r, n)
				Move(r, n, m)
				Move(r, m, n)
			}
		}
	}
}
