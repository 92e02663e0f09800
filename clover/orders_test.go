package clover

import (
	"math/rand"
	"testing"

	"flit/api"
	"flit/mem"
	"flit/watch"
)

// work is what the chapter says of an access, in a mode in which nothing is shaded.
func work(p api.Plan, r api.Req, mode int) watch.Work {
	return func(t *watch.Tale) api.Out {
		if r.At == 0 {
			return api.Out{Code: api.ErrNil}
		}
		h := t.Load(r.At)
		tag, link, moves, fix := watch.Tag(h), watch.Link(h), mode >= api.ModePrep, mode == api.ModeFix
		switch {
		case r.Field < 0 || r.Field >= watch.Count(h):
			return api.Out{Code: api.ErrField}
		case !moves:
			return t.Direct(r.At, r, false, false)
		case tag == api.TagMoved:
			return t.Direct(link, r, true, fix)
		case tag == api.TagClaimed:
			return claimed(t, r, mode, link)
		}
		writes := r.Op == api.Write || r.Op == api.Swap
		if writes && r.New == sentinel() && tag != api.TagStays && r.At >= p.Heap && r.At < p.Size {
			if b := t.Load(p.Table + (r.At-p.Heap)/32); b%4 == api.BlockEvac {
				return api.Out{Code: api.ErrBusy}
			}
		}
		return t.Direct(r.At, r, true, fix)
	}
}

// claimed is the steps from 3 on.
func claimed(t *watch.Tale, r api.Req, mode, link int) api.Out {
	for {
		field := r.At + 1 + r.Field
		w := t.Load(field)
		t.Hit = true
		if w == watch.Field(sentinel()) {
			return t.Direct(link, r, true, mode == api.ModeFix)
		}
		v := watch.Value(w)
		if r.Op == api.Read {
			return api.Out{V: v}
		}
		if r.Op != api.Write && (r.Op != api.Swap || v != r.Exp) {
			return api.Out{}
		}
		if r.New == sentinel() || mode >= api.ModeClose {
			return api.Out{Code: api.ErrBusy}
		}
		if t.CAS(field, w, watch.Field(r.New)) {
			t.Hit = true
			return api.Out{Yes: r.Op == api.Swap}
		}
	}
}

// begin is an Access that is held against the chapter at each step.
func begin(p api.Plan, r api.Req, mode int) watch.Beside {
	return watch.Beside{X: New(p, r, env(mode)), Work: work(p, r, mode)}
}

// way is what a scene asks of Clover.
type way struct{ p api.Plan }

func (w way) Begin(r api.Req, mode int) watch.Beside { return begin(w.p, r, mode) }
func (w way) Copy(x watch.Accessor) watch.Accessor   { return copyOf(x) }

// Place: a field of an object that is claimed is in its copy, if the word where it was is the sentinel's.
func (w way) Place(s *watch.Scene, thing, field int) int {
	x := s.Things[thing]
	tag := watch.Tag(watch.Word(s.M, x.At))
	if tag == api.TagMoved || tag == api.TagClaimed && watch.Word(s.M, x.At+1+field) == watch.Field(sentinel()) {
		return x.To + 1 + field
	}
	return x.At + 1 + field
}

// Prep claims, or lets the object stay, if one of its fields has the sentinel (chapter 20).
func (w way) Prep(t *watch.Tale, x watch.Thing) {
	h := t.Load(x.At)
	for k := range watch.Fields {
		if t.Load(x.At+1+k) == watch.Field(sentinel()) {
			t.Store(x.At, h+api.TagStays<<9)
			return
		}
	}
	t.Store(x.To, h)
	t.Store(x.At, h+api.TagClaimed<<9+uint64(x.To)<<12)
}

// Move copies each field and lays the sentinel down where it was, if it has what was copied still; when all closes, till it does (chapter 21).
func (w way) Move(t *watch.Tale, x watch.Thing, closes bool) {
	if watch.Tag(t.Load(x.At)) != api.TagClaimed {
		return
	}
	for k := range watch.Fields {
		for again := true; again; {
			v := t.Load(x.At + 1 + k)
			if v == watch.Field(sentinel()) {
				break
			}
			t.Store(x.To+1+k, v)
			again = !t.CAS(x.At+1+k, v, watch.Field(sentinel())) && closes
		}
	}
	if closes {
		t.Store(x.At, watch.Moved(0, watch.Fields, 1, x.To))
	}
}

// Did: who has to wait would lay the sentinel down, or is in a mode in which nobody writes where the field was; and nobody does so there.
func (w way) Did(s *watch.Scene, a *watch.Actor, did api.Access, done bool) string {
	x := s.Things[a.Job.Thing]
	tag := watch.Tag(watch.Word(s.M, x.At))
	field := x.At + 1 + a.Job.Field
	onWay := tag == api.TagClaimed && did.At == field
	wrote := did.Op != 1 && did.OK
	lays := a.Job.New == sentinel()
	if wrote && onWay && a.Mode >= api.ModeClose {
		return "it writes where the field was"
	}
	if done && a.Access.X.Result().Code == api.ErrBusy {
		return waited(s, a, did.At == field)
	}
	if wrote && lays && a.Mode >= api.ModePrep {
		countSentinel(s, tag, did.At, x)
	}
	if onWay && a.Mode >= api.ModePrep {
		countOnWay(s, a, did, done)
	}
	return ""
}

// waited counts one that has to wait, behind a look at its field or at the table.
func waited(s *watch.Scene, a *watch.Actor, claimed bool) string {
	lays := a.Job.New == sentinel()
	switch {
	case a.Job.Op == api.Read || a.Mode < api.ModePrep:
		return "it does not have to wait"
	case lays && !claimed:
		s.Tally["the sentinel, of an object that may be claimed yet"]++
	case lays && a.Mode < api.ModeClose:
		s.Tally["the sentinel, of one that is claimed"]++
	case claimed && a.Mode >= api.ModeClose:
		s.Tally["whatever it is, when all closes"]++
	default:
		return "it does not have to wait"
	}
	return ""
}

// countSentinel counts where the sentinel was laid down.
func countSentinel(s *watch.Scene, tag, at int, x watch.Thing) {
	switch {
	case at > x.To && at <= x.To+watch.Fields:
		s.Tally["the sentinel in a copy"]++
	case tag == api.TagStays:
		s.Tally["the sentinel in what stays"]++
	default:
		s.Tally["the sentinel in a block that is not emptied"]++
	}
}

// countOnWay counts what was found of a field that may be elsewhere.
func countOnWay(s *watch.Scene, a *watch.Actor, did api.Access, done bool) {
	away := watch.Word(s.M, did.At) == watch.Field(sentinel())
	switch {
	case did.Op == 1 && away:
		s.Tally["a field that is in the copy"]++
	case did.Op == 1 && done && a.Job.Op == api.Read:
		s.Tally["one that is not yet"]++
	case did.Op == 3 && did.OK:
		s.Tally["one that is written where it was"]++
	case did.Op == 3 && away:
		s.Tally["one that has gone meanwhile"]++
	}
}

// Holds: what has the tag stays.
func (w way) Holds(s *watch.Scene) string {
	for i, x := range s.Things {
		if watch.Tag(watch.Word(s.M, x.At)) == api.TagStays {
			s.Stays[i] = true
		}
	}
	return ""
}

// cases are what scenes are for.
func cases() []string {
	return append(watch.Cases(),
		"the sentinel, of an object that may be claimed yet",
		"the sentinel, of one that is claimed",
		"whatever it is, when all closes",
		"the sentinel in a copy",
		"the sentinel in what stays",
		"a field that is in the copy",
		"one that is not yet",
		"one that is written where it was",
		"one that has gone meanwhile",
	)
}

// things are those of a scene: the ones that are moved in the block that is emptied, the others, and all copies, in the other one.
func things(moves int) [watch.Things]watch.Thing {
	var l [watch.Things]watch.Thing
	for i := range l {
		l[i] = watch.Thing{At: 32 + 4*i, To: 64 + 4*i}
		if i >= moves {
			l[i].At += 48
		}
	}
	return l
}

// opened is a scene of actors with these jobs, on things whose fields have that, of which the first few are moved.
func opened(t *testing.T, l watch.Tally, moves int, has watch.Values, todo ...[]watch.Job) *watch.Scene {
	t.Helper()
	p := planned(t)
	m, e := mem.New(p.Size)
	if e != api.OK {
		t.Fatalf("mem.New: error %d", e)
	}
	m.Store(11, watch.Block(api.BlockEvac, 0, 0, 0))
	m.Store(12, watch.Block(api.BlockUsed, 0, 0, 0))
	s := watch.Scene{M: m, Way: way{p}, Things: things(moves), Moves: moves, Has: has, Tally: l}
	return s.Open(todo...)
}

// P14.1, P14.2, T1, T2, in every order of the steps of a few accesses and of a collector that claims, copies and lays the sentinel down: each step does what the chapter says by what the words are then; each access has the result that it would have if it were done at once at its last hit, or has to wait and did nothing; each field is at one place, and has what was written last.
func TestEveryOrder(t *testing.T) {
	l := things(1)
	self, other, none := ref(l[0].At), ref(l[1].At), ref(0)
	elsewhere := func(j watch.Job) watch.Job {
		j.Field = 1
		return j
	}
	all := watch.Tally{}
	for _, todo := range [][][]watch.Job{
		{{watch.Reads(), watch.Reads()}},
		{{watch.Writes(scalar(6)), watch.Reads()}},
		{{watch.Writes(sentinel()), watch.Reads()}},
		{{watch.Reads()}, {watch.Writes(scalar(6))}},
		{{watch.Reads()}, {watch.Writes(sentinel())}},
		{{watch.Writes(scalar(6))}, {watch.Writes(other)}},
		{{watch.Writes(sentinel())}, {watch.Writes(scalar(6))}},
		{{watch.Writes(none)}, {elsewhere(watch.Writes(sentinel()))}},
		{{watch.Swaps(self, none)}, {watch.Swaps(none, self)}},
		{{watch.Swaps(scalar(5), self)}, {watch.Swaps(scalar(5), sentinel())}},
		{{watch.Swaps(sentinel(), scalar(5))}, {watch.Swaps(scalar(5), sentinel())}},
		{{watch.Swaps(self, self)}, {watch.Reads()}},
	} {
		for _, v := range []api.Val{scalar(5), self, sentinel()} {
			has := watch.Values{{v, none}, {self, none}, {none, scalar(3)}}
			watch.EveryOrder(t, opened(t, all, 1, has, todo...), (*watch.Scene).Finish)
		}
	}
	all.Check(t, cases()...)
}

// P14.1, P14.2, T1, T2, in orders that a fixed seed gives, of many accesses of several things, some of which are moved.
func TestManyOrders(t *testing.T) {
	all := watch.Tally{}
	for seed := range 400 {
		r := rand.New(rand.NewSource(int64(seed)))
		moves := 1 + r.Intn(watch.Things)
		l := []api.Val{scalar(5), scalar(6), ref(0)}
		for _, x := range things(moves) {
			l = append(l, ref(x.At))
		}
		has := watch.SomeValues(r.Intn, append(l, l...))
		if seed%4 == 0 { // some have the sentinel ahead of all
			has = watch.SomeValues(r.Intn, append(l, sentinel()))
		}
		todo := watch.SomeJobs(r.Intn, append(l, sentinel(), sentinel()))
		watch.AnyOrder(t, opened(t, all, moves, has, todo...), (*watch.Scene).Finish, r.Intn)
		if t.Failed() {
			t.Fatalf("seed %d", seed)
		}
	}
	all.Check(t, append(cases(), "the sentinel in a block that is not emptied")...)
}

// P14.1: however headers, fields and the table change between the steps of several accesses, each step does what the chapter says by what the words are then.
func TestAnyWords(t *testing.T) {
	ends := map[int]int{}
	codes := map[api.Errno]int{}
	for seed := range 60 {
		r := rand.New(rand.NewSource(int64(seed)))
		m := madeClaimed(t, scalar(5))
		l := make([]watch.Beside, 1+r.Intn(4))
		for k := range 1500 {
			i := r.Intn(len(l))
			if l[i].X == nil || len(l[i].Met) > 60 {
				l[i] = begin(planned(t), someAccess(r), []int{4, 5, 6, 6, 7, 8, 9}[r.Intn(7)])
			}
			did, done, wrong := l[i].Step(m)
			if wrong != "" || m.Traps() != 0 {
				t.Fatalf("seed %d, change %d: %v, behind %#x: %s, %d traps", seed, k, did, l[i].Met, wrong, m.Traps())
			}
			if done {
				ends[len(l[i].Met)]++
				codes[l[i].X.Result().Code]++
				watch.CheckDone(t, l[i].X, m)
				l[i] = watch.Beside{}
			}
			change(r, m)
		}
	}
	for n := 1; n <= 8; n++ {
		if ends[n] == 0 {
			t.Errorf("none was done in %d steps", n)
		}
	}
	for _, e := range []api.Errno{api.OK, api.ErrBusy, api.ErrField} {
		if codes[e] == 0 {
			t.Errorf("none was done with the error %d", e)
		}
	}
}

// someAccess is one of base, or of an object of no block, mostly of a field that it has.
func someAccess(r *rand.Rand) api.Req {
	l := append(values()[4:], sentinel(), sentinel(), sentinel())
	return api.Req{
		Op:    r.Intn(8) % 5,
		At:    []int{base, base, base, copied, ahead, behind}[r.Intn(6)],
		Field: r.Intn(9)%4 - r.Intn(12)/11,
		Exp:   l[r.Intn(len(l))],
		New:   l[r.Intn(len(l))],
	}
}

// change lets base have another header, most often one that is claimed, or a field, or the table, another word, or nothing.
func change(r *rand.Rand, m *mem.Memory) {
	l := append(values()[4:], sentinel(), sentinel())
	link := []int{copied, there}[r.Intn(2)]
	switch r.Intn(8) {
	case 0, 1:
		h := watch.Tagged(0, r.Intn(4), r.Intn(2), []int{4, 4, 4, 4, 2, r.Intn(8), r.Intn(8)}[r.Intn(7)], link)
		if r.Intn(4) == 0 {
			h = h&^3 + uint64(r.Intn(4)) + uint64(r.Intn(3))<<40
		}
		m.Store(base, h)
	case 2, 3:
		m.Store([]int{base, base, link}[r.Intn(3)]+1+r.Intn(3), watch.Field(l[r.Intn(len(l))])|uint64(r.Intn(5)/4)*frozen)
	case 4:
		m.Store(11+r.Intn(2), watch.Block(r.Intn(4), r.Intn(4), r.Intn(2), r.Intn(9)))
	}
}
