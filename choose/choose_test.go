package choose

import (
	"fmt"
	"math"
	"math/big"
	"math/rand"
	"slices"
	"testing"

	"flit/api"
	"flit/edges"
)

// junk is a candidate that no list here has: it stands behind a list's end, and where a list or an answer is spoiled.
var junk = api.Cand{Block: 77777, Live: 1}

// withRoom is a list of its own, that has junk in the spare room behind its end.
func withRoom(l []api.Cand) []api.Cand {
	own := slices.Concat(l, []api.Cand{junk, junk, junk})
	return own[:len(l)]
}

// checkHanded says whether a list that was handed in, and what stands behind its end, are as they were (R7).
func checkHanded(t *testing.T, call string, handed, l []api.Cand) {
	t.Helper()
	want := slices.Concat(l, []api.Cand{junk, junk, junk})
	if got := handed[:len(want)]; !slices.Equal(got, want) {
		t.Fatalf("%s changed what was handed in: now %v, want %v", call, got, want)
	}
}

// picked is what Pick answers of a list: each call holds it against what R6 and R7 say of every answer.
func picked(t *testing.T, l []api.Cand, most int) []int {
	t.Helper()
	call := fmt.Sprintf("Pick(%v, %d)", l, most)
	handed := withRoom(l)
	first := Pick(handed, most)
	checkHanded(t, call, handed, l)
	want := slices.Clone(first)
	second := Pick(handed, most)
	checkHanded(t, call, handed, l)
	for i := range first[:cap(first)] {
		first[:cap(first)][i] = junk.Block
	}
	checkHanded(t, call+", whose answer was spoiled,", handed, l)
	if !slices.Equal(second, want) {
		t.Fatalf("%s = %v, and %v when it was called again and the first answer was spoiled", call, want, second)
	}
	for i := range handed[:cap(handed)] {
		handed[:cap(handed)][i] = junk
	}
	if !slices.Equal(second, want) {
		t.Fatalf("%s = %v, and %v when the list was spoiled", call, want, second)
	}
	if third := Pick(withRoom(l), most); !slices.Equal(third, want) {
		t.Fatalf("%s = %v, and %v of a list that is alike", call, want, third)
	}
	return want
}

// checkPick holds what Pick answers against what is wanted.
func checkPick(t *testing.T, l []api.Cand, most int, want ...int) {
	t.Helper()
	if got := picked(t, l, most); !slices.Equal(got, want) {
		t.Errorf("Pick(%v, %d) = %v, want %v", l, most, got, want)
	}
}

// told is what P18.1 says, anew: who is next is sought in the whole list each time, and what is left is a number that can not go round.
func told(l []api.Cand, most int) []int {
	var blocks []int
	gone := make([]bool, len(l))
	left := big.NewInt(int64(most))
	for {
		i := turn(l, gone)
		if i < 0 || big.NewInt(int64(l[i].Live)).Cmp(left) > 0 {
			return blocks
		}
		gone[i] = true
		left.Sub(left, big.NewInt(int64(l[i].Live)))
		blocks = append(blocks, l[i].Block)
	}
}

// turn is where the candidate stands that is next among those that are not gone (below 0: none is).
func turn(l []api.Cand, gone []bool) int {
	found := -1
	for i, c := range l {
		switch {
		case gone[i] || c.Live < 1:
		case found < 0, c.Live < l[found].Live, c.Live == l[found].Live && c.Block < l[found].Block:
			found = i
		}
	}
	return found
}

// checkTold holds what Pick answers against P18.1 told anew, and P18.2.
func checkTold(t *testing.T, l []api.Cand, most int) {
	t.Helper()
	got := picked(t, l, most)
	if want := told(l, most); !slices.Equal(got, want) {
		t.Fatalf("Pick(%v, %d) = %v, want %v", l, most, got, want)
	}
	if others := fitting(l, len(got)+1, most); others != nil {
		t.Fatalf("Pick(%v, %d) = %v, but %v are one more, and have together no more", l, most, got, others)
	}
}

// fitting are n of the candidates that may be, whichever, that have together no more than most (nil: there are none), by trying all that there are.
func fitting(l []api.Cand, n, most int) []api.Cand {
	for code := range 1 << len(l) {
		var some []api.Cand
		sum := new(big.Int)
		for i, c := range l {
			if code>>i&1 == 1 && c.Live >= 1 {
				some = append(some, c)
				sum.Add(sum, big.NewInt(int64(c.Live)))
			}
		}
		if len(some) == n && sum.Cmp(big.NewInt(int64(most))) <= 0 {
			return some
		}
	}
	return nil
}

// eachList does of all lists of n candidates that are among those.
func eachList(of []api.Cand, n int, do func(l []api.Cand)) {
	l := make([]api.Cand, n)
	var from func(i int)
	from = func(i int) {
		if i == n {
			do(l)
			return
		}
		for _, c := range of {
			l[i] = c
			from(i + 1)
		}
	}
	from(0)
}

// eachOrder does of a list in all orders, by letting each place have each of those behind it.
func eachOrder(l []api.Cand, do func(l []api.Cand)) {
	var from func(i int)
	from = func(i int) {
		if i == len(l) {
			do(l)
			return
		}
		for k := i; k < len(l); k++ {
			l[i], l[k] = l[k], l[i]
			from(i + 1)
			l[i], l[k] = l[k], l[i]
		}
	}
	from(0)
}

// P18.1: the chapter's examples.
func TestExamples(t *testing.T) {
	checkPick(t, []api.Cand{{Block: 3, Live: 2}, {Block: 1, Live: 1}, {Block: 2, Live: 2}}, 3, 1, 2)
	checkPick(t, []api.Cand{{Block: 1, Live: 0}, {Block: 2, Live: 5}}, 4)
}

// P18.1: no candidates, and a list that is empty and none, whatever most is.
func TestNone(t *testing.T) {
	for _, most := range edges.Numbers() {
		checkPick(t, nil, most)
		checkPick(t, []api.Cand{}, most)
		if got := Pick(nil, most); len(got) != 0 {
			t.Fatalf("Pick(nil, %d) = %v, want none", most, got)
		}
	}
}

// P18.1: one candidate alone is taken if its Live is 1 or more, and not above most; its Block is any number.
func TestOne(t *testing.T) {
	for _, live := range edges.Numbers() {
		for _, most := range edges.Numbers() {
			var want []int
			if live >= 1 && live <= most {
				want = []int{5}
			}
			if got := Pick([]api.Cand{{Block: 5, Live: live}}, most); !slices.Equal(got, want) {
				t.Fatalf("Pick({5, %d}, %d) = %v, want %v", live, most, got, want)
			}
		}
	}
	for _, block := range edges.Numbers() {
		checkPick(t, []api.Cand{{Block: block, Live: 3}}, 3, block)
		checkPick(t, []api.Cand{{Block: block, Live: 3}}, 2)
		checkPick(t, []api.Cand{{Block: block, Live: 0}}, 3)
	}
}

// P18.1: those whose Live is below 1 are passed over, and leave what is left as it is.
func TestMayNotBe(t *testing.T) {
	checkPick(t, []api.Cand{{Block: 1}, {Block: 2, Live: -1}, {Block: 3, Live: math.MinInt}}, math.MaxInt)
	checkPick(t, []api.Cand{{Block: 1}, {Block: 2, Live: -1}}, 0)
	checkPick(t, []api.Cand{{Block: 1}, {Block: 2, Live: -1}}, -1)
	checkPick(t, []api.Cand{{Block: 1, Live: -4}, {Block: 2, Live: 4}, {Block: 3, Live: 1}}, 4, 3)
	checkPick(t, []api.Cand{{Block: 1, Live: math.MinInt}, {Block: 2, Live: 4}}, 3)
	checkPick(t, []api.Cand{{Block: 1, Live: math.MinInt}, {Block: 2, Live: 4}}, 4, 2)
	checkPick(t, []api.Cand{{Block: 1, Live: 4}, {Block: 2}, {Block: 3, Live: 4}}, 8, 1, 3)
}

// P18.1: a Live of just what is left is taken, of one more it is not; nothing is taken of nothing.
func TestLeft(t *testing.T) {
	l := []api.Cand{{Block: 1, Live: 2}, {Block: 2, Live: 3}, {Block: 3, Live: 4}}
	for most, n := range []int{0, 0, 1, 1, 1, 2, 2, 2, 2, 3, 3} {
		checkPick(t, l, most, []int{1, 2, 3}[:n]...)
	}
	for _, most := range []int{0, -1, -2, -1 << 40, math.MinInt + 1, math.MinInt} {
		checkPick(t, l, most)
		checkPick(t, []api.Cand{{Block: 1, Live: math.MaxInt}, {Block: 2, Live: 1}}, most)
	}
	checkPick(t, l, math.MaxInt, 1, 2, 3)
}

// P18.1: nothing goes round, however great a Live is and how great or small most is.
func TestRound(t *testing.T) {
	half := math.MaxInt/2 + 1
	checkPick(t, []api.Cand{{Block: 2, Live: math.MaxInt}, {Block: 1, Live: math.MaxInt}}, math.MaxInt, 1)
	checkPick(t, []api.Cand{{Block: 1, Live: math.MaxInt}, {Block: 2, Live: 1}}, math.MaxInt, 2)
	checkPick(t, []api.Cand{{Block: 1, Live: math.MaxInt - 1}, {Block: 2, Live: 1}}, math.MaxInt, 2, 1)
	checkPick(t, []api.Cand{{Block: 1, Live: half}, {Block: 2, Live: half}}, math.MaxInt, 1)
	checkPick(t, []api.Cand{{Block: 1, Live: half}, {Block: 2, Live: half - 1}, {Block: 3, Live: half}}, math.MaxInt, 2, 1)
	checkPick(t, []api.Cand{{Block: 1, Live: half}, {Block: 2, Live: half}, {Block: 3, Live: half}, {Block: 4, Live: half}}, math.MaxInt, 1)
	checkPick(t, []api.Cand{{Block: 1, Live: half}, {Block: 2, Live: half}, {Block: 3, Live: half}, {Block: 4, Live: half}}, 0)
	checkPick(t, []api.Cand{{Block: 1, Live: math.MaxInt}}, math.MaxInt-1)
	checkPick(t, []api.Cand{{Block: 1, Live: math.MaxInt}, {Block: 2, Live: 2}}, math.MinInt)
	checkPick(t, []api.Cand{{Block: math.MaxInt, Live: 1}, {Block: math.MinInt, Live: 1}}, 2, math.MinInt, math.MaxInt)
	checkPick(t, []api.Cand{{Block: 1, Live: math.MinInt}, {Block: 2, Live: math.MaxInt}, {Block: 3, Live: 1}}, math.MaxInt, 3)
}

// P18.1: of the same Live the lesser Block is first, below 0 too; whoever has the same of both is taken as often as it stands there.
func TestAlike(t *testing.T) {
	l := []api.Cand{{Block: 9, Live: 2}, {Block: 0, Live: 2}, {Block: -9, Live: 2}, {Block: 10, Live: 2}, {Block: -10, Live: 2}}
	checkPick(t, l, 10, -10, -9, 0, 9, 10)
	checkPick(t, l, 9, -10, -9, 0, 9)
	checkPick(t, l, 2, -10)
	checkPick(t, l, 1)
	checkPick(t, []api.Cand{{Block: -10, Live: 3}, {Block: 10, Live: 2}}, 5, 10, -10)
	twice := []api.Cand{{Block: 4, Live: 3}, {Block: 7, Live: 1}, {Block: 4, Live: 3}, {Block: 4, Live: 1}, {Block: 7, Live: 1}, {Block: 4, Live: 3}}
	checkPick(t, twice, 12, 4, 7, 7, 4, 4, 4)
	checkPick(t, twice, 11, 4, 7, 7, 4, 4)
	checkPick(t, twice, 8, 4, 7, 7, 4)
	checkPick(t, twice, 2, 4, 7)
}

// P18.1: as soon as one is not taken that is all, though there be one behind it that has no more; the Live is asked first, not the place in the list, nor the Block.
func TestAll(t *testing.T) {
	checkPick(t, []api.Cand{{Block: 5, Live: 1}, {Block: 1, Live: 3}, {Block: 2, Live: 3}, {Block: 0, Live: 4}}, 3, 5)
	checkPick(t, []api.Cand{{Block: 5, Live: 1}, {Block: 1, Live: 3}, {Block: 2, Live: 3}, {Block: 0, Live: 4}}, 4, 5, 1)
	checkPick(t, []api.Cand{{Block: 0, Live: 6}, {Block: 1, Live: 5}, {Block: 2, Live: 4}}, 6, 2)
	checkPick(t, []api.Cand{{Block: 2, Live: 4}, {Block: 0, Live: 2}, {Block: 1, Live: 3}}, 5, 0, 1)
}

// P18.1 and P18.2: of each list of up to five candidates of a few, and of what is most, from nothing to all of them.
func TestEachList(t *testing.T) {
	few := []api.Cand{{Block: 0, Live: 1}, {Block: 1, Live: 1}, {Block: 1, Live: 2}, {Block: -1, Live: 2}, {Block: 0, Live: 3}, {Block: 0, Live: 0}}
	for n := range 5 {
		eachList(few, n, func(l []api.Cand) {
			for most := -1; most <= 3*n; most++ {
				checkTold(t, l, most)
			}
		})
	}
	eachList(few[:4], 5, func(l []api.Cand) { checkTold(t, l, 5) })
}

// P18.1 and P18.2: of each list of up to three candidates, each Live and each most of which is great, or below 1.
func TestEachGreat(t *testing.T) {
	great := []int{math.MaxInt, math.MaxInt - 1, 1<<62 + 1, 1 << 62, 1<<62 - 1, 1, 0, -1, math.MinInt + 1, math.MinInt}
	var of []api.Cand
	for i, live := range great {
		of = append(of, api.Cand{Block: -i, Live: live})
	}
	for n := range 4 {
		eachList(of, n, func(l []api.Cand) {
			for _, most := range great {
				checkTold(t, l, most)
			}
		})
	}
}

// P18.1: the order in which candidates stand in the list does not matter.
func TestEachOrder(t *testing.T) {
	for _, l := range [][]api.Cand{
		{{Block: 1, Live: 1}, {Block: 2, Live: 2}, {Block: 3, Live: 3}, {Block: 4, Live: 4}, {Block: 5, Live: 5}, {Block: 6, Live: 6}},
		{{Block: 6, Live: 1}, {Block: 5, Live: 1}, {Block: 4, Live: 2}, {Block: 3, Live: 2}, {Block: 2, Live: 3}, {Block: 1, Live: 3}},
		{{Block: 1, Live: 2}, {Block: 1, Live: 2}, {Block: -1, Live: 2}, {Block: 1, Live: 0}, {Block: 2, Live: math.MaxInt}, {Block: 3, Live: 2}},
	} {
		for most := -1; most <= 22; most++ {
			want := told(l, most)
			eachOrder(slices.Clone(l), func(l []api.Cand) { checkPick(t, l, most, want...) })
		}
	}
}

// P18.1: many candidates that rise, that fall, and that are all alike.
func TestMany(t *testing.T) {
	const n = 50000
	var rising, falling, alike []api.Cand
	var first, same []int
	for i := range n {
		rising = append(rising, api.Cand{Block: -i, Live: i + 1})
		falling = append(falling, api.Cand{Block: i, Live: n - i})
		alike = append(alike, api.Cand{Block: 7, Live: 3})
		first = append(first, -i)
		same = append(same, 7)
	}
	last := make([]int, n)
	for i := range last {
		last[i] = n - 1 - i
	}
	for _, k := range []int{0, 1, 2, 3, 100, n - 1, n} {
		sum := k * (k + 1) / 2
		for _, x := range []struct {
			name string
			l    []api.Cand
			most int
			want []int
		}{
			{"rising", rising, sum, first[:k]},
			{"falling", falling, sum, last[:k]},
			{"rising, and some left", rising, sum + k, first[:k]},
			{"falling, and some left", falling, sum + k, last[:k]},
			{"alike", alike, 3 * k, same[:k]},
			{"alike, and some left", alike, 3*k + 2, same[:k]},
		} {
			if got := Pick(x.l, x.most); !slices.Equal(got, x.want) {
				t.Errorf("%s: %d are taken of %d, want the first %d", x.name, len(got), n, k)
			}
		}
	}
}

// some are n candidates, chosen by r: of few numbers, so that many are alike, or of any.
func some(r *rand.Rand, n int, few bool) []api.Cand {
	numbers := edges.Numbers()
	l := make([]api.Cand, n)
	for i := range l {
		l[i] = api.Cand{Block: r.Intn(11) - 5, Live: r.Intn(9) - 1}
		if !few {
			l[i] = api.Cand{Block: numbers[r.Intn(len(numbers))], Live: numbers[r.Intn(len(numbers))]}
		}
	}
	return l
}

// P18.1: of as many as a heap has blocks, and fewer, chosen by seeds.
func TestAnyList(t *testing.T) {
	numbers := edges.Numbers()
	for seed := range 2000 {
		r := rand.New(rand.NewSource(int64(seed)))
		few := seed%2 == 0
		l := some(r, r.Intn(api.MaxBlocks+1), few)
		most := numbers[r.Intn(len(numbers))]
		if few {
			most = r.Intn(3 * api.MaxBlocks)
		}
		if got, want := picked(t, l, most), told(l, most); !slices.Equal(got, want) {
			t.Fatalf("seed %d: Pick(%v, %d) = %v, want %v", seed, l, most, got, want)
		}
	}
}

// P18.2, with P18.1: of up to ten candidates, chosen by seeds, no others are one more and have no more.
func TestNoOthers(t *testing.T) {
	numbers := edges.Numbers()
	for seed := range 300 {
		r := rand.New(rand.NewSource(int64(seed)))
		l := some(r, r.Intn(11), seed%3 != 0)
		most := r.Intn(24)
		if seed%3 == 0 {
			most = numbers[r.Intn(len(numbers))]
		}
		checkTold(t, l, most)
	}
}

// R7: an answer has nothing in common with one before it, so that each may be written to.
func TestOwn(t *testing.T) {
	l := []api.Cand{{Block: 3, Live: 1}, {Block: 1, Live: 2}, {Block: 2, Live: 3}}
	a, b := Pick(l, 3), Pick(l, 6)
	a = append(a, 8, 9)
	a[0], a[1] = 100, 101
	if want := []int{3, 1, 2}; !slices.Equal(b, want) {
		t.Errorf("the second answer is %v when the first one was changed, want %v", b, want)
	}
	b = append(b, 10)
	b[0] = 200
	if want := []int{100, 101, 8, 9}; !slices.Equal(a, want) {
		t.Errorf("the first answer is %v when the second one was changed, want %v", a, want)
	}
}
