package chicken

import (
	"fmt"
	"math/rand"
	"testing"

	"flit/api"
	"flit/mem"
	"flit/watch"
)

// work is what the chapter says of an access, in a mode in which nothing is shaded.
func work(r api.Req, mode int) watch.Work {
	return func(t *watch.Tale) api.Out {
		if r.At == 0 {
			return api.Out{Code: api.ErrNil}
		}
		moves, fix := mode >= api.ModePrep, mode == api.ModeFix
		for {
			h := t.Load(r.At)
			if r.Field < 0 || r.Field >= watch.Count(h) {
				return api.Out{Code: api.ErrField}
			}
			tag, link := watch.Tag(h), watch.Link(h)
			switch {
			case moves && tag == api.TagMoved:
				return t.Direct(link, r, true, fix)
			case !moves || tag != api.TagTagged:
				return t.Direct(r.At, r, moves, fix)
			case r.Op == api.Read:
				w := t.Load(r.At + 1 + r.Field)
				t.Hit = true
				if g := t.Load(r.At); watch.Tag(g) == api.TagMoved {
					return t.Direct(watch.Link(g), r, true, fix)
				}
				return api.Out{V: watch.Value(w)}
			}
			if t.CAS(r.At, h, h&0x1ff) {
				return t.Direct(r.At, r, true, fix)
			}
		}
	}
}

// begin is an Access that is held against the chapter at each step.
func begin(r api.Req, mode int) watch.Beside {
	return watch.Beside{X: New(r, api.Env{Mode: mode, Mark: 1}), Work: work(r, mode)}
}

// way is what a scene asks of Chicken.
type way struct{}

func (way) Begin(r api.Req, mode int) watch.Beside     { return begin(r, mode) }
func (way) Copy(x watch.Accessor) watch.Accessor       { return copyOf(x) }
func (way) Place(s *watch.Scene, thing, field int) int { return s.Home(thing) + 1 + field }

// Prep tags (chapter 20).
func (way) Prep(t *watch.Tale, x watch.Thing) {
	h := t.Load(x.At)
	t.Store(x.To, h)
	t.Store(x.At, h+api.TagTagged<<9+uint64(x.To)<<12)
}

// Move copies the fields, and lets the copy count, if the tag is still there (chapter 21).
func (way) Move(t *watch.Tale, x watch.Thing, closes bool) {
	if closes {
		return
	}
	h := t.Load(x.At)
	if watch.Tag(h) != api.TagTagged {
		return
	}
	for k := range watch.Fields {
		t.Store(x.To+1+k, t.Load(x.At+1+k))
	}
	t.CAS(x.At, h, watch.Moved(0, watch.Fields, 1, x.To))
}

// Did: who writes to a tagged object takes the tag away first, and then it stays.
func (way) Did(s *watch.Scene, a *watch.Actor, did api.Access, done bool) string {
	thing := a.Job.Thing
	at := s.Things[thing].At
	tag := watch.Tag(watch.Word(s.M, at))
	hit := a.Access.X.Hit()
	switch {
	case did == watch.CAS(at, false):
		s.Tally["a tag that another has taken"]++
	case did == watch.CAS(at, true):
		s.Tally["a tag that is taken"]++
		if s.Stays[thing] {
			return "the object has stayed already"
		}
		s.Stays[thing] = true
	case did.Op != 1 && did.OK && tag == api.TagTagged && a.Mode >= api.ModeCopy:
		return "the object has its tag still"
	case did == watch.Load(at) && len(a.Access.Met) == 1 && tag == api.TagMoved:
		s.Tally["an object that was moved"]++
	case did == watch.Load(at) && done:
		s.Tally["a Read of a tagged object"]++
	case did.Op == 1 && hit && a.Hits > 1 && a.Job.Op == api.Read:
		s.Tally["a Read that goes on at the copy"]++
	}
	return ""
}

// Holds: what stays has no tag.
func (way) Holds(s *watch.Scene) string {
	for i, x := range s.Things {
		if h := watch.Word(s.M, x.At); s.Stays[i] && h != watch.Object(0, watch.Fields, 1) {
			return fmt.Sprintf("%v does not stay: its header is %#x", x, h)
		}
	}
	return ""
}

// things are those of all scenes.
func things() [watch.Things]watch.Thing {
	return [watch.Things]watch.Thing{{At: 8, To: 24}, {At: 12, To: 28}, {At: 16, To: 32}}
}

// opened is a scene of actors with these jobs, on things whose fields have that, of which the first few are moved.
func opened(t *testing.T, l watch.Tally, moves int, has watch.Values, todo ...[]watch.Job) *watch.Scene {
	t.Helper()
	m, e := mem.New(40)
	if e != api.OK {
		t.Fatalf("mem.New: error %d", e)
	}
	s := watch.Scene{M: m, Way: way{}, Things: things(), Moves: moves, Has: has, Tally: l}
	return s.Open(todo...)
}

// cases are what scenes are for.
func cases() []string {
	return append(watch.Cases(), "a tag that is taken", "a tag that another has taken", "a Read of a tagged object", "a Read that goes on at the copy", "an object that was moved")
}

// P13.1, T1, T2, in every order of the steps of a few accesses and of a collector: each step does what the chapter says by what the words are then; each access has the result that it would have if it were done at once at its last hit; each field is at one place, and has what was laid down last; who writes to a tagged object takes the tag away first, and then it stays.
func TestEveryOrder(t *testing.T) {
	self, other, none := ref(things()[0].At), ref(things()[1].At), ref(0)
	elsewhere := func(j watch.Job) watch.Job {
		j.Field = 1
		return j
	}
	all := watch.Tally{}
	for _, todo := range [][][]watch.Job{
		{{watch.Reads(), watch.Reads()}},
		{{watch.Writes(scalar(6)), watch.Reads()}},
		{{watch.Reads()}, {watch.Writes(scalar(6))}},
		{{watch.Reads()}, {elsewhere(watch.Writes(self))}},
		{{watch.Writes(scalar(6))}, {watch.Writes(other)}},
		{{watch.Writes(none)}, {elsewhere(watch.Writes(scalar(6)))}},
		{{watch.Swaps(self, none)}, {watch.Swaps(self, scalar(6))}},
		{{watch.Swaps(self, none)}, {watch.Swaps(none, self)}},
		{{watch.Swaps(scalar(5), self)}, {watch.Reads()}},
		{{watch.Swaps(self, self)}, {watch.Reads()}},
	} {
		for _, v := range []api.Val{scalar(5), self} {
			has := watch.Values{{v, none}, {self, none}, {none, scalar(3)}}
			watch.EveryOrder(t, opened(t, all, 1, has, todo...), (*watch.Scene).Finish)
		}
	}
	all.Check(t, cases()...)
}

// P13.1, T1, T2, in orders that a fixed seed gives, of many accesses of several things, some of which are moved.
func TestManyOrders(t *testing.T) {
	all := watch.Tally{}
	l := []api.Val{scalar(5), scalar(6), ref(0)}
	for _, x := range things() {
		l = append(l, ref(x.At))
	}
	for seed := range 400 {
		r := rand.New(rand.NewSource(int64(seed)))
		has := watch.SomeValues(r.Intn, l)
		s := opened(t, all, 1+r.Intn(watch.Things), has, watch.SomeJobs(r.Intn, l)...)
		watch.AnyOrder(t, s, (*watch.Scene).Finish, r.Intn)
		if t.Failed() {
			t.Fatalf("seed %d", seed)
		}
	}
	all.Check(t, cases()...)
}

// P13.1: however headers and fields change between the steps of several accesses, each step does what the chapter says by what the words are then.
func TestAnyHeaders(t *testing.T) {
	ends := map[int]int{}
	for seed := range 60 {
		r := rand.New(rand.NewSource(int64(seed)))
		m := made(t, header(api.TagTagged, copied), scalar(5))
		l := make([]watch.Beside, 1+r.Intn(4))
		for k := range 1500 {
			i := r.Intn(len(l))
			if l[i].X == nil || len(l[i].Met) > 60 {
				l[i] = begin(someAccess(r), []int{4, 5, 6, 7, 8, 9}[r.Intn(6)])
			}
			did, done, wrong := l[i].Step(m)
			if wrong != "" || m.Traps() != 0 {
				t.Fatalf("seed %d, change %d: %v, behind %#x: %s, %d traps", seed, k, did, l[i].Met, wrong, m.Traps())
			}
			if done {
				ends[len(l[i].Met)]++
				watch.CheckDone(t, l[i].X, m)
				l[i] = watch.Beside{}
			}
			change(r, m)
		}
	}
	for n := 1; n <= 8; n++ {
		if ends[n] == 0 {
			t.Errorf("none was done in %d steps", n)
		}
	}
}

// someAccess is one of base, mostly of a field that it has.
func someAccess(r *rand.Rand) api.Req {
	l := values()
	return api.Req{
		Op:    r.Intn(8) % 5,
		At:    base,
		Field: r.Intn(9)%4 - r.Intn(12)/11,
		Exp:   l[r.Intn(len(l))],
		New:   l[4+r.Intn(len(l)-4)],
	}
}

// change lets base have another header, most often a tagged one, or a field another word, or nothing.
func change(r *rand.Rand, m *mem.Memory) {
	l := values()
	at := []int{base, copied, there}[r.Intn(3)]
	switch r.Intn(6) {
	case 0, 1:
		h := watch.Tagged(0, r.Intn(4), r.Intn(2), []int{1, 1, 1, 1, 2, 2, r.Intn(8)}[r.Intn(7)], []int{copied, there}[r.Intn(2)])
		if r.Intn(4) == 0 {
			h = h&^3 + uint64(r.Intn(4)) + uint64(r.Intn(3))<<40
		}
		m.Store(base, h)
	case 2:
		m.Store(at+1+r.Intn(3), watch.Field(l[r.Intn(len(l))])|uint64(r.Intn(2))*frozen)
	}
}
