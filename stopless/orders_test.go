package stopless

import (
	"fmt"
	"math/rand"
	"slices"
	"testing"

	"flit/api"
	"flit/mem"
	"flit/watch"
)

// work is what the chapter says of an access, in a mode in which nothing is shaded.
func work(r api.Req, mode int) watch.Work {
	return func(t *watch.Tale) api.Out {
		if r.At == 0 {
			return api.Out{Code: api.ErrNil}
		}
		h := t.Load(r.At)
		tag, link, moves, fix := watch.Tag(h), watch.Link(h), mode >= api.ModePrep, mode == api.ModeFix
		switch {
		case r.Field < 0 || r.Field >= watch.Count(h):
			return api.Out{Code: api.ErrField}
		case !moves:
			return t.Direct(r.At, r, false, false)
		case tag == api.TagMoved:
			return t.Direct(link, r, true, fix)
		case tag == api.TagWide:
			return (&going{t, r, mode, link, 0}).on()
		}
		return t.Direct(r.At, r, true, fix)
	}
}

// going is the work of an access of a field that may be on its way.
type going struct {
	*watch.Tale
	r    api.Req
	mode int
	wide int
	s    uint64 // the status, as it was asked last
}

func (g *going) pair() int     { return g.wide + 2 + 2*g.r.Field }
func (g *going) original() int { return g.r.At + 1 + g.r.Field }

// on is the steps from 2 on.
func (g *going) on() api.Out {
	g.s = g.Load(g.pair())
	for {
		var done bool
		var out api.Out
		switch g.s {
		case 0:
			out, done = g.there()
		case 1, 2:
			out, done = g.paired()
		default:
			return g.Direct(watch.Link(g.Load(g.wide)), g.r, true, g.mode == api.ModeFix)
		}
		if done {
			return out
		}
	}
}

// there is the steps 3 to 5, and 2 behind that.
func (g *going) there() (api.Out, bool) {
	for {
		w := g.Load(g.original())
		g.Hit = true
		if w&frozen != 0 {
			g.CAS2(g.pair(), 0, 0, 1, w-frozen)
			g.s = g.Load(g.pair())
			return api.Out{}, false
		}
		v := watch.Value(w)
		switch {
		case g.r.Op == api.Read:
			return api.Out{V: v}, true
		case !writes(g.r, v):
			return api.Out{}, true
		case g.mode >= api.ModeClose:
			g.CAS(g.original(), w, w+frozen)
		case g.CAS(g.original(), w, watch.Field(g.r.New)):
			g.Hit = true
			return api.Out{Yes: g.r.Op == api.Swap}, true
		}
	}
}

// paired is the steps 6 to 9, and 12 to 14, and 2 behind these.
func (g *going) paired() (api.Out, bool) {
	w := g.Load(g.pair() + 1)
	g.Hit = true
	v := watch.Value(w)
	switch {
	case !writes(g.r, v):
		t := g.Load(g.pair())
		if t != g.s {
			g.s = t
			return api.Out{}, false
		}
		if g.r.Op == api.Read {
			return api.Out{V: v}, true
		}
		return api.Out{}, true
	case g.s == 2:
		to := watch.Link(g.Load(g.wide))
		g.CAS(to+1+g.r.Field, empty(), w)
		g.CAS2(g.pair(), 2, w, 3, w)
	case g.mode >= api.ModeClose:
		g.CAS2(g.pair(), 1, w, 2, w)
	case g.CAS2(g.pair(), 1, w, 1, watch.Field(g.r.New)):
		g.Hit = true
		return api.Out{Yes: g.r.Op == api.Swap}, true
	}
	g.s = g.Load(g.pair())
	return api.Out{}, false
}

// begin is an Access that is held against the chapter at each step.
func begin(r api.Req, mode int) watch.Beside {
	return watch.Beside{X: New(r, env(mode)), Work: work(r, mode)}
}

// way is what a scene asks of Stopless.
type way struct{}

// things are those of all scenes; wideOf is where the wide object of one stands.
func things() [watch.Things]watch.Thing {
	return [watch.Things]watch.Thing{{At: 8, To: 20}, {At: 12, To: 24}, {At: 16, To: 28}}
}

func wideOf(x watch.Thing) int { return 2*x.At + 16 }

func (way) Begin(r api.Req, mode int) watch.Beside { return begin(r, mode) }
func (way) Copy(x watch.Accessor) watch.Accessor   { return copyOf(x) }

// Place: a field of an object that is on its way is where its status says.
func (way) Place(s *watch.Scene, thing, field int) int {
	x := s.Things[thing]
	pair := wideOf(x) + 2 + 2*field
	there, final := x.At+1+field, x.To+1+field
	switch h := watch.Word(s.M, x.At); watch.Tag(h) {
	case api.TagMoved:
		return final
	case api.TagWide:
		return []int{there, pair + 1, pair + 1, final}[watch.Word(s.M, pair)]
	}
	return there
}

// Prep lets the final copy be empty, and all fields of the wide object be in the original (chapter 20).
func (way) Prep(t *watch.Tale, x watch.Thing) {
	h := t.Load(x.At)
	for k := range watch.Fields {
		t.Store(x.To+1+k, empty())
	}
	t.Store(x.To, h)
	for k := range watch.Fields {
		t.Store(wideOf(x)+2+2*k, 0)
		t.Store(wideOf(x)+3+2*k, 0)
	}
	t.Store(wideOf(x), watch.Wide(1, watch.Fields, x.To))
	t.Store(x.At, h+api.TagWide<<9+uint64(wideOf(x))<<12)
}

// Move freezes fields and opens their pairs; when all closes, it goes on till each is in the final copy (chapter 21).
func (way) Move(t *watch.Tale, x watch.Thing, closes bool) {
	t.Load(x.At)
	for k := range watch.Fields {
		if closes {
			end(t, x, k)
		} else {
			open(t, x, k)
		}
	}
	if closes {
		t.Store(x.At, watch.Moved(0, watch.Fields, 1, x.To))
	}
}

func open(t *watch.Tale, x watch.Thing, k int) {
	there, pair := x.At+1+k, wideOf(x)+2+2*k
	if t.Load(pair) != 0 {
		return
	}
	w := t.Load(there)
	if w&frozen == 0 && !t.CAS(there, w, w|frozen) {
		return
	}
	t.CAS2(pair, 0, 0, 1, w&^frozen)
}

func end(t *watch.Tale, x watch.Thing, k int) {
	there, pair := x.At+1+k, wideOf(x)+2+2*k
	for {
		switch t.Load(pair) {
		case 0:
			w := t.Load(there)
			for w&frozen == 0 {
				t.CAS(there, w, w|frozen)
				w = t.Load(there)
			}
			t.CAS2(pair, 0, 0, 1, w&^frozen)
		case 1:
			w := t.Load(pair + 1)
			t.CAS2(pair, 1, w, 2, w)
		case 2:
			w := t.Load(pair + 1)
			t.CAS(x.To+1+k, empty(), w)
			t.CAS2(pair, 2, w, 3, w)
		default:
			return
		}
	}
}

// Did: nobody waits; what is frozen is written no more; when all closes nobody writes where a field does not end.
func (way) Did(s *watch.Scene, a *watch.Actor, did api.Access, done bool) string {
	x := s.Things[a.Job.Thing]
	there, pair, to := x.At+1+a.Job.Field, wideOf(x)+2+2*a.Job.Field, x.To+1+a.Job.Field
	wrote := did.Op != 1 && did.OK && a.Access.X.Hit()
	onWay := watch.Tag(watch.Word(s.M, x.At)) == api.TagWide
	switch {
	case done && a.Access.X.Result().Code != api.OK:
		return "it has an error"
	case wrote && did.At == there && onWay && watch.Word(s.M, pair) != 0:
		return "it writes where the field is no more"
	case wrote && did.At != to && onWay && a.Mode >= api.ModeClose:
		return "it writes where the field does not end"
	}
	if a.Mode >= api.ModePrep {
		count(s.Tally, s.M, a, did, there, pair, to)
	}
	return ""
}

// count counts what was found of a field, and who helped it on.
func count(l watch.Tally, m *mem.Memory, a *watch.Actor, did api.Access, there, pair, to int) {
	hit, status := a.Access.X.Hit(), watch.Word(m, pair)
	for name, is := range map[string]bool{
		"a field that is frozen":                   did == watch.Load(there) && watch.Word(m, there)&frozen != 0,
		"one that is frozen, by a helper":          did == watch.CAS(there, true) && !hit,
		"one that is written in the original":      did == watch.CAS(there, true) && hit,
		"one that is another one there by then":    did == watch.CAS(there, false),
		"a value in an open pair":                  did == watch.Load(pair+1) && status == api.InWide,
		"a value in one that is shut":              did == watch.Load(pair+1) && status == api.Shut,
		"a pair that is opened, by a helper":       did == watch.CAS2(pair, true) && !hit && status == api.InWide,
		"one that is shut, by a helper":            did == watch.CAS2(pair, true) && status == api.Shut,
		"one that is ended, by a helper":           did == watch.CAS2(pair, true) && status == api.InFinal,
		"one that is written":                      did == watch.CAS2(pair, true) && hit,
		"one that is opened by another":            did == watch.CAS2(pair, false) && status == api.InWide,
		"one that is shut by another":              did == watch.CAS2(pair, false) && status == api.Shut,
		"one that is ended by another":             did == watch.CAS2(pair, false) && status == api.InFinal,
		"a final copy that is filled, by a helper": did == watch.CAS(to, true) && !hit,
		"one that is filled by another":            did == watch.CAS(to, false) && status >= api.Shut,
		"a field in the final copy":                did == watch.Load(to) && status == api.InFinal,
		"a status that is another one by then":     movedOn(a.Access.Met, did, pair),
	} {
		if is {
			l[name]++
		}
	}
}

// movedOn tells whether an access was a look at the status behind one at the value, and found another one than ahead of that.
func movedOn(met []uint64, did api.Access, pair int) bool {
	n := len(met)
	return n >= 4 && did == watch.Load(pair) && met[n-1] <= api.InFinal && met[n-3] <= api.InFinal && met[n-1] != met[n-3]
}

// cases are what scenes are for: nothing stays here that is to be moved.
func cases() []string {
	l := slices.DeleteFunc(watch.Cases(), func(name string) bool { return name == "a thing that stays" })
	return append(l,
		"a field that is frozen",
		"one that is frozen, by a helper",
		"one that is written in the original",
		"one that is another one there by then",
		"a value in an open pair",
		"a value in one that is shut",
		"a pair that is opened, by a helper",
		"one that is shut, by a helper",
		"one that is ended, by a helper",
		"one that is written",
		"one that is opened by another",
		"one that is shut by another",
		"one that is ended by another",
		"a final copy that is filled, by a helper",
		"one that is filled by another",
		"a field in the final copy",
		"a status that is another one by then",
	)
}

// Holds: a field whose pair is open, or has been, is frozen in the original; its final copy is empty till the pair is shut, and not empty behind that.
func (way) Holds(s *watch.Scene) string {
	for _, x := range s.Things {
		if watch.Tag(watch.Word(s.M, x.At)) != api.TagWide {
			continue
		}
		for k := range watch.Fields {
			status := watch.Word(s.M, wideOf(x)+2+2*k)
			left := watch.Word(s.M, x.At+1+k)&frozen != 0
			filled := watch.Word(s.M, x.To+1+k) != empty()
			if status > api.InFinal || !left && status != api.InOriginal || filled && status < api.Shut || !filled && status == api.InFinal {
				return fmt.Sprintf("the field %d of %v has the status %d, frozen: %t, filled: %t", k, x, status, left, filled)
			}
		}
	}
	return ""
}

// opened is a scene of actors with these jobs, on things whose fields have that, of which the first few are moved.
func opened(t *testing.T, l watch.Tally, moves int, has watch.Values, todo ...[]watch.Job) *watch.Scene {
	t.Helper()
	x := things()
	m, e := mem.New(wideOf(x[moves-1]) + 8)
	if e != api.OK {
		t.Fatalf("mem.New: error %d", e)
	}
	for a := wideOf(x[0]); a < m.Len(); a++ { // pairs that nobody has laid out say that fields are there
		m.Store(a, api.InWide)
	}
	s := watch.Scene{M: m, Way: way{}, Things: x, Moves: moves, Has: has, Tally: l}
	return s.Open(todo...)
}

// P15.1, P15.2, T1, T2, in every order of the steps of a few accesses and of a collector that freezes fields, lays them into pairs, shuts these and lays them into the final copy: each step does what the chapter says by what the words are then; each access has the result that it would have if it were done at once at its last hit; each field is at one place, and has what was written last.
func TestEveryOrder(t *testing.T) {
	self, other, none := ref(things()[0].At), ref(things()[1].At), ref(0)
	elsewhere := func(j watch.Job) watch.Job {
		j.Field = 1
		return j
	}
	plays := []struct {
		has  api.Val
		todo [][]watch.Job
	}{
		{self, [][]watch.Job{{watch.Reads(), watch.Reads()}}},
		{scalar(5), [][]watch.Job{{watch.Writes(scalar(6)), watch.Reads()}}},
		{self, [][]watch.Job{{watch.Reads()}, {watch.Writes(scalar(6))}}},
		{scalar(5), [][]watch.Job{{watch.Reads()}, {elsewhere(watch.Writes(self))}}},
		{scalar(5), [][]watch.Job{{watch.Writes(scalar(6))}, {watch.Writes(other)}}},
		{scalar(5), [][]watch.Job{{watch.Swaps(scalar(5), none)}, {watch.Swaps(scalar(5), scalar(6))}}},
		{self, [][]watch.Job{{watch.Swaps(self, none)}, {watch.Swaps(none, self)}}},
		{scalar(5), [][]watch.Job{{watch.Swaps(scalar(5), self)}, {watch.Reads()}}},
		{self, [][]watch.Job{{watch.Swaps(self, self)}, {watch.Reads()}}},
	}
	tallies := make([]watch.Tally, len(plays))
	t.Run("plays", func(t *testing.T) {
		for i, x := range plays {
			tallies[i] = watch.Tally{} // one each, as they go on side by side
			t.Run("", func(t *testing.T) {
				t.Parallel()
				has := watch.Values{{x.has, none}, {self, none}, {none, scalar(3)}}
				watch.EveryOrder(t, opened(t, tallies[i], 1, has, x.todo...), (*watch.Scene).Finish)
			})
		}
	})
	watch.Together(tallies...).Check(t, cases()...)
}

// P15.1, P15.2, T1, T2, in orders that a fixed seed gives, of many accesses of several things, some of which are moved.
func TestManyOrders(t *testing.T) {
	all := watch.Tally{}
	l := []api.Val{scalar(5), scalar(6), ref(0)}
	for _, x := range things() {
		l = append(l, ref(x.At))
	}
	for seed := range 400 {
		r := rand.New(rand.NewSource(int64(seed)))
		has := watch.SomeValues(r.Intn, l)
		s := opened(t, all, 1+r.Intn(watch.Things), has, manyJobs(r, l)...)
		watch.AnyOrder(t, s, (*watch.Scene).Finish, r.Intn)
		if t.Failed() {
			t.Fatalf("seed %d", seed)
		}
	}
	all.Check(t, cases()...)
}

// manyJobs are so many that they last till all is moved.
func manyJobs(r *rand.Rand, l []api.Val) [][]watch.Job {
	todo := watch.SomeJobs(r.Intn, l)
	for i := range todo {
		for _, more := range watch.SomeJobs(r.Intn, l) {
			todo[i] = append(todo[i], more...)
		}
	}
	return todo
}

// P15.1: however headers, fields and pairs change between the steps of several accesses, each step does what the chapter says by what the words are then.
func TestAnyWords(t *testing.T) {
	ends := map[int]int{}
	for seed := range 60 {
		r := rand.New(rand.NewSource(int64(seed)))
		m := madeWide(t, api.InOriginal, scalar(5))
		l := make([]watch.Beside, 1+r.Intn(4))
		for k := range 1500 {
			i := r.Intn(len(l))
			if l[i].X == nil || len(l[i].Met) > 60 {
				l[i] = begin(someAccess(r), []int{4, 5, 6, 6, 7, 7, 8, 9}[r.Intn(8)])
			}
			did, done, wrong := l[i].Step(m)
			if wrong != "" || m.Traps() != 0 {
				t.Fatalf("seed %d, change %d: %v, behind %#x: %s, %d traps", seed, k, did, l[i].Met, wrong, m.Traps())
			}
			if done {
				ends[len(l[i].Met)]++
				watch.CheckDone(t, l[i].X, m)
				l[i] = watch.Beside{}
			}
			change(r, m)
		}
	}
	for n := 1; n <= 16; n++ {
		if ends[n] == 0 {
			t.Errorf("none was done in %d steps", n)
		}
	}
}

// someAccess is one of base, mostly of a field that it has, and mostly one that writes.
func someAccess(r *rand.Rand) api.Req {
	l := values()
	return api.Req{
		Op:    []int{1, 2, 2, 2, 3, 3}[r.Intn(6)],
		At:    base,
		Field: r.Intn(9)%4 - r.Intn(12)/11,
		Exp:   l[:3][r.Intn(3)],
		New:   l[r.Intn(len(l))],
	}
}

// change lets base have another header, most often one that is on its way, or a field or a pair another word, or nothing.
func change(r *rand.Rand, m *mem.Memory) {
	l := values()
	v := watch.Field(l[r.Intn(3)]) | uint64(r.Intn(2))*frozen
	k := r.Intn(3)
	switch r.Intn(16) {
	case 0, 1:
		link := []int{wide, wide, wide, there}[r.Intn(4)]
		h := watch.Tagged(0, r.Intn(4), r.Intn(2), []int{3, 3, 3, 3, 3, 2, r.Intn(8)}[r.Intn(7)], link)
		if r.Intn(4) == 0 {
			h = h&^3 + uint64(r.Intn(4)) + uint64(r.Intn(3))<<40
		}
		m.Store(base, h)
	case 2:
		m.Store(wide, watch.Wide(1, 3, []int{copied, there}[r.Intn(2)]))
	case 3, 4:
		m.Store([]int{field, final}[r.Intn(2)]+k, v)
	case 5:
		m.Store(final+k, empty())
	case 6:
		m.Store(pairs+2*k, uint64(r.Intn(5)))
	case 7:
		m.Store(pairs+2*k+1, v)
	case 8:
		m.Store(pairs+2*k, 0)
		m.Store(pairs+2*k+1, 0)
	}
}
