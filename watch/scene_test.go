package watch

import (
	"maps"
	"math/rand"
	"testing"

	"flit/api"
	"flit/mem"
)

// working is an Accessor that does what its work says.
type working struct {
	work Work
	met  []uint64
}

func (x *working) Step(m *mem.Memory) bool {
	if t := Tell(x.work, x.met); t.Next != nil {
		x.met = append(x.met[:len(x.met):len(x.met)], t.Next(m))
	}
	return Tell(x.work, x.met).Next == nil
}

func (x *working) Hit() bool       { return Tell(x.work, x.met).Hit }
func (x *working) Result() api.Out { return Tell(x.work, x.met).Out }

// rash is a way in which an access asks where its object is, and the collector copies whatever comes in between.
type rash struct {
	work       func(t *Tale, r api.Req, mode int) api.Out
	stands     bool // nothing is moved
	did, holds string
}

func (w rash) Begin(r api.Req, mode int) Beside {
	work := func(t *Tale) api.Out { return w.work(t, r, mode) }
	return Beside{X: &working{work: work}, Work: work}
}

func (w rash) Copy(x Accessor) Accessor {
	y := *x.(*working)
	return &y
}

func (w rash) Prep(t *Tale, x Thing) { t.Store(x.To, t.Load(x.At)) }

func (w rash) Move(t *Tale, x Thing, closes bool) {
	if closes || w.stands {
		return
	}
	for k := range Fields {
		t.Store(x.To+1+k, t.Load(x.At+1+k))
	}
	t.Store(x.At, Moved(0, Fields, 1, x.To))
}

func (w rash) Place(s *Scene, thing, field int) int                { return s.Home(thing) + 1 + field }
func (w rash) Did(_ *Scene, _ *Actor, _ api.Access, _ bool) string { return w.did }
func (w rash) Holds(*Scene) string                                 { return w.holds }

// where is what all works of these tests do, but for their faults.
func where(t *Tale, r api.Req, mode int) api.Out {
	return t.Direct(Home(t.Load(r.At), r.At), r, true, mode == api.ModeFix)
}

// opened is a scene whose first thing refers to the first two.
func opened(t *testing.T, l Tally, w rash, moves int, todo ...[]Job) *Scene {
	t.Helper()
	m, e := mem.New(36)
	if e != api.OK {
		t.Fatalf("mem.New: error %d", e)
	}
	refTo := func(at int) api.Val { return api.Val{Kind: api.Ref, N: at} }
	s := Scene{M: m, Way: w, Moves: moves, Tally: l, Things: [Things]Thing{{8, 20}, {12, 24}, {16, 28}}}
	s.Has = Values{{refTo(8), refTo(12)}, {{N: 5}}, {{N: 6}}}
	return s.Open(todo...)
}

// A scene in which nothing is lost has nothing wrong: what is read while all is moved, what is written while nothing is, and what waits till that is over.
func TestScene(t *testing.T) {
	waits := func(t *Tale, r api.Req, mode int) api.Out {
		out := where(t, api.Req{Op: api.Read, At: r.At, Field: r.Field}, mode)
		if mode < api.ModeFix && mode != api.ModePlain && r.Op != api.Read {
			return api.Out{Code: api.ErrBusy}
		}
		if r.Op == api.Read {
			return out
		}
		return where(t, r, mode)
	}
	self, none := api.Val{Kind: api.Ref, N: 8}, api.Val{Kind: api.Ref}
	all := Tally{}
	for _, x := range []struct {
		way   rash
		moves int
		todo  [][]Job
	}{
		{rash{work: where}, 2, [][]Job{{Reads(), Reads()}, {Reads()}}},
		{rash{work: where, stands: true}, 0, [][]Job{{Writes(none)}, {Swaps(self, none)}, {Reads()}}},
		{rash{work: where, stands: true}, 0, [][]Job{{Swaps(none, self)}, {Swaps(self, none)}}},
		{rash{work: waits}, 1, [][]Job{{Writes(none), Reads()}, {Swaps(self, none)}}},
	} {
		EveryOrder(t, opened(t, all, x.way, x.moves, x.todo...), (*Scene).Finish)
	}
	all.Check(t, fieldChanged, swapDone, swapNot, thingMoved)
	if all[thingStays] != 0 {
		t.Errorf("%d things stay", all[thingStays])
	}
}

// Tallies together count what each of them does, and stay as they are; what none of them has met is told.
func TestTallies(t *testing.T) {
	a, b := Tally{"one": 1, "both": 2}, Tally{"both": 3, "none": 0}
	all := Together(a, b, nil)
	if !maps.Equal(all, Tally{"one": 1, "both": 5, "none": 0}) || len(a) != 2 || a["both"] != 2 || b["both"] != 3 {
		t.Errorf("together %v, of %v and %v", all, a, b)
	}
	all.Check(t, "one", "both")
	var f faults
	all.Check(&f, "one", "none", "another")
	if f != 2 {
		t.Errorf("%d faults", f)
	}
	if len(Together()) != 0 {
		t.Error("no tallies together are not empty")
	}
}

// What is wrong is told.
func TestSceneThatFinds(t *testing.T) {
	six := api.Val{N: 6}
	tells := func(out api.Out) func(t *Tale, r api.Req, mode int) api.Out {
		return func(t *Tale, r api.Req, mode int) api.Out {
			where(t, r, mode)
			return out
		}
	}
	for _, x := range []struct {
		name  string
		way   rash
		moves int
		job   Job
	}{
		{"a write that is lost", rash{work: where}, 1, Writes(six)},
		{"a thing that is not moved", rash{work: where, stands: true}, 1, Reads()},
		{"a Read that tells another value", rash{work: tells(api.Out{V: six})}, 0, Reads()},
		{"a Swap that is not done, and tells that it is", rash{work: tells(api.Out{Yes: true})}, 0, Swaps(six, six)},
		{"an error", rash{work: tells(api.Out{Code: api.ErrField})}, 0, Writes(six)},
		{"one that has to wait, and has written", rash{work: tells(api.Out{Code: api.ErrBusy})}, 0, Writes(six)},
		{"a step of which the way tells it", rash{work: where, did: "no"}, 0, Reads()},
		{"words of which the way tells it", rash{work: where, holds: "no"}, 0, Reads()},
		{"no hit", rash{work: func(t *Tale, r api.Req, _ int) api.Out {
			return api.Out{V: Value(t.Load(r.At + 1))}
		}}, 0, Reads()},
		{"a Write that writes nothing", rash{work: func(t *Tale, r api.Req, _ int) api.Out {
			t.Load(r.At + 1)
			t.Hit = true
			return api.Out{}
		}}, 0, Writes(six)},
		{"a Write elsewhere", rash{work: func(t *Tale, r api.Req, mode int) api.Out {
			r.Field++
			return where(t, r, mode)
		}}, 0, Writes(six)},
		{"a trap", rash{work: func(t *Tale, r api.Req, mode int) api.Out {
			t.Load(36)
			return where(t, r, mode)
		}}, 0, Reads()},
		{"no end", rash{work: func(t *Tale, r api.Req, mode int) api.Out {
			for range 60 {
				t.Load(r.At)
			}
			return where(t, r, mode)
		}}, 0, Reads()},
	} {
		var f faults
		EveryOrder(&f, opened(t, Tally{}, x.way, x.moves, []Job{x.job}), (*Scene).Finish)
		if f != 1 {
			t.Errorf("%s: %d faults", x.name, f)
		}
	}
	var f faults
	Tally{"this": 1}.Check(&f, "this", "that")
	if f != 1 {
		t.Errorf("a tally finds %d faults", f)
	}
}

// steps does so many of an actor: what is wrong with the first one that is, or nothing.
func steps(s *Scene, actor, n int) string {
	for range n {
		if wrong := s.Step(actor); wrong != "" {
			return wrong
		}
	}
	return ""
}

// What is told of what is wrong names what was done, what there is, and what there should be.
func TestSceneTexts(t *testing.T) {
	write := Writes(api.Val{N: 6})
	errs := rash{stands: true, work: func(t *Tale, r api.Req, mode int) api.Out {
		where(t, r, mode)
		return api.Out{Code: api.ErrField, V: r.New, Yes: true}
	}}
	loads := rash{stands: true, work: func(t *Tale, r api.Req, _ int) api.Out {
		for {
			t.Load(r.At)
		}
	}}
	moves, stands := rash{work: where}, rash{work: where, stands: true}
	for _, x := range []struct {
		want string
		way  rash
		do   func(s *Scene) string
	}{
		{
			"{Op:2 At:8 Field:0 Exp:{Kind:0 N:0} New:{Kind:0 N:6}} in mode 4: {2 9 true}, done: true: Result is {15 {0 6} true}, want {0 {0 0} false}, at one of 1 hits, written: true",
			errs, func(s *Scene) string { return steps(s, 0, 2) },
		},
		{
			"{Op:2 At:8 Field:0 Exp:{Kind:0 N:0} New:{Kind:0 N:6}} in mode 4: {1 8 true}, done: false: no access ended in 49 steps",
			loads, func(s *Scene) string { return steps(s, 0, 49) },
		},
		{
			"the field 1 of {12 24} has {2 7}, want {0 0}",
			stands, func(s *Scene) string {
				s.M.Store(14, Field(api.Val{Kind: api.Empty, N: 7}))
				return steps(s, 0, 1)
			},
		},
		{
			"{8 20} is at 8",
			stands, func(s *Scene) string {
				for s.actors = nil; !s.Idle(0); {
					s.Step(0)
				}
				return s.Finish()
			},
		},
		{
			"the field 0 of {8 20} has {1 8}, which was moved",
			moves, func(s *Scene) string {
				for s.actors = nil; !s.Idle(0); {
					s.Step(0)
				}
				s.M.Store(21, Field(api.Val{Kind: api.Ref, N: 8}))
				return s.Finish()
			},
		},
	} {
		if got := x.do(opened(t, Tally{}, x.way, 1, []Job{write})); got != x.want {
			t.Errorf("%q, want %q", got, x.want)
		}
	}
}

// Scenes that go on in other ways have other keys, each by one thing alone.
func TestSceneKey(t *testing.T) {
	keys := map[string]int{}
	for i, change := range []func(s *Scene){
		func(s *Scene) {},
		func(s *Scene) { s.M.Store(35, 1) },
		func(s *Scene) { s.M.Store(35, 11) },
		func(s *Scene) { s.met = append(s.met, 1) },
		func(s *Scene) { s.met = append(s.met, 1, 1) },
		func(s *Scene) { s.met = append(s.met, 11) },
		func(s *Scene) { s.Stays[0] = true },
		func(s *Scene) { s.Stays[1] = true },
		func(s *Scene) { s.actors = s.actors[:1] },
		func(s *Scene) { s.actors[0].todo = nil },
		func(s *Scene) { s.actors[1].todo = nil },
		func(s *Scene) { s.actors[0].Mode = 1 },
		func(s *Scene) { s.actors[1].Mode = 1 },
		func(s *Scene) { s.actors[0].Access.Met = []uint64{1} },
		func(s *Scene) { s.actors[0].Access.Met = []uint64{11} },
		func(s *Scene) { s.actors[0].Access.Met = []uint64{1, 1} },
		func(s *Scene) { s.actors[1].Access.Met = []uint64{1} },
		func(s *Scene) { s.actors[0].Hits = 1 },
		func(s *Scene) { s.actors[0].Saw = api.Val{Kind: 1} },
		func(s *Scene) { s.actors[0].Saw = api.Val{N: 1} },
		func(s *Scene) { s.actors[0].Saw = api.Val{N: -1} },
	} {
		s := opened(t, Tally{}, rash{work: where}, 1, []Job{Reads()}, []Job{Reads()})
		change(s)
		if before, is := keys[s.Key()]; is {
			t.Errorf("the scenes %d and %d have one key", before, i)
		}
		keys[s.Key()] = i
	}
}

// A CAS2 writes a field by its second word. An access that is no hit moves a field on, and writes nothing: neither is it counted as written, nor may it change what the field has.
func TestSceneOfPairs(t *testing.T) {
	lays := func(first, second api.Val) func(t *Tale, r api.Req, mode int) api.Out {
		return func(t *Tale, r api.Req, mode int) api.Out {
			for {
				v, w := t.Load(r.At+1), t.Load(r.At+2)
				if !t.CAS2(r.At+1, v, w, v|4, w|4) {
					continue
				}
				if t.CAS2(r.At+1, v|4, w|4, Field(first), Field(second)) {
					t.Hit = true
					return api.Out{}
				}
			}
		}
	}
	only := func(t *Tale, r api.Req, mode int) api.Out {
		t.CAS2(r.At+1, Field(api.Val{N: 5}), Field(api.Val{N: 6}), Field(api.Val{N: 5}), Field(r.New))
		return api.Out{}
	}
	for _, x := range []struct {
		name string
		work func(t *Tale, r api.Req, mode int) api.Out
		job  Job
		ok   bool
	}{
		{"the field's word", lays(api.Val{N: 5}, api.Val{N: 7}), Job{Op: api.Write, Field: 1, New: api.Val{N: 7}}, true},
		{"the word ahead of that", lays(api.Val{N: 7}, api.Val{N: 6}), Job{Op: api.Write, New: api.Val{N: 7}}, false},
		{"both", lays(api.Val{N: 7}, api.Val{N: 7}), Job{Op: api.Write, Field: 1, New: api.Val{N: 7}}, false},
		{"no hit", only, Job{Op: api.Write, Field: 1, New: api.Val{N: 7}}, false},
		{"no hit, and what the field had already", only, Job{Op: api.Write, Field: 1, New: api.Val{N: 6}}, false},
	} {
		m, _ := mem.New(36)
		s := Scene{M: m, Way: rash{work: x.work, stands: true}, Tally: Tally{}, Things: [Things]Thing{{9, 21}, {13, 25}, {17, 29}}}
		s.Has = Values{{{N: 5}, {N: 6}}}
		var f faults
		EveryOrder(&f, s.Open([]Job{x.job}), (*Scene).Finish)
		if (f == 0) != x.ok {
			t.Errorf("%s: %d faults", x.name, f)
		}
	}
}

// A clone of a scene goes its own way, at each of its steps.
func TestSceneCloned(t *testing.T) {
	s := opened(t, Tally{}, rash{work: where}, 1, []Job{Swaps(api.Val{Kind: api.Ref, N: 8}, api.Val{})})
	for k := range 3 {
		c := s.Clone()
		key := s.Key()
		if c.Key() != key {
			t.Errorf("behind %d steps a clone is another scene", k)
		}
		for range 3 - k {
			if wrong := c.Step(0); wrong != "" {
				t.Error(wrong)
			}
		}
		if !c.Idle(0) || s.Key() != key {
			t.Errorf("behind %d steps a clone is not on its own", k)
		}
		s.Step(0)
	}
}

// Jobs and values that are picked name what there is.
func TestSomeJobs(t *testing.T) {
	l := []api.Val{{N: 5}, {Kind: api.Ref}}
	ops := map[int]int{}
	for seed := range 20 {
		pick := rand.New(rand.NewSource(int64(seed))).Intn
		has := SomeValues(pick, l)
		for i := range has {
			for _, v := range has[i] {
				if v != l[0] && v != l[1] {
					t.Errorf("a field has %v", v)
				}
			}
		}
		for _, todo := range SomeJobs(pick, l) {
			for _, j := range todo {
				ops[j.Op]++
				if j.Thing < 0 || j.Thing >= Things || j.Field < 0 || j.Field >= Fields {
					t.Errorf("there is no field of %+v", j)
				}
			}
		}
	}
	if len(ops) != 3 || ops[api.Read] == 0 || ops[api.Write] == 0 || ops[api.Swap] == 0 {
		t.Errorf("the Ops are %v", ops)
	}
}
