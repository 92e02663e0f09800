package watch

import (
	"slices"
	"strconv"

	"flit/api"
	"flit/mem"
)

// Things is how many objects a scene has, Fields how many fields each of them has.
const (
	Things = 3
	Fields = 2
)

// Thing is an object of a scene, and the cell of its copy.
type Thing struct{ At, To int }

// Values are what all fields of a scene have. A reference is said by where its thing is at first.
type Values [Things][Fields]api.Val

// Job is an access of a field of a thing. What it names is said as in Values.
type Job struct {
	Op, Thing, Field int
	Exp, New         api.Val
}

// Reads, Writes and Swaps are jobs of the first field of the first thing.
func Reads() Job               { return Job{Op: api.Read} }
func Writes(v api.Val) Job     { return Job{Op: api.Write, New: v} }
func Swaps(exp, v api.Val) Job { return Job{Op: api.Swap, Exp: exp, New: v} }

// SomeValues are some of these values; pick answers a number below n.
func SomeValues(pick func(n int) int, l []api.Val) Values {
	var has Values
	for i := range has {
		for k := range has[i] {
			has[i][k] = l[pick(len(l))]
		}
	}
	return has
}

// SomeJobs are those of some actors, with few values, so that Swaps find what they expect. Some write seldom.
func SomeJobs(pick func(n int) int, l []api.Val) [][]Job {
	todo := make([][]Job, 1+pick(5))
	writes := 1 + pick(12)
	for i := range todo {
		for range 12 {
			j := Job{Op: api.Read, Thing: pick(Things), Field: pick(Fields), Exp: l[pick(len(l))], New: l[pick(len(l))]}
			if pick(writes) == 0 {
				j.Op = api.Write + pick(2)
			}
			todo[i] = append(todo[i], j)
		}
	}
	return todo
}

// Way is what a scene asks of one of the ways in which objects are moved.
type Way interface {
	Begin(r api.Req, mode int) Beside                         // an access, held against its chapter
	Copy(x Accessor) Accessor                                 // a copy of such an access
	Prep(t *Tale, x Thing)                                    // what the collector does in ModePrep
	Move(t *Tale, x Thing, closes bool)                       // and in ModeCopy and ModeClose
	Place(s *Scene, thing, field int) int                     // where the word of a field stands now
	Did(s *Scene, a *Actor, did api.Access, done bool) string // what is wrong with a step of an access, beside what a scene finds
	Holds(s *Scene) string                                    // likewise with the words, behind each step
}

// Actor does jobs, one behind the other, each in the mode that is asked for when it begins.
type Actor struct {
	Job    Job
	Req    api.Req // what the job asks for
	Mode   int
	Access Beside // X is nil: none is under way
	Hits   int
	Saw    api.Val // what the field had ahead of the last hit
	Said   api.Val // as its word said it, if the last hit was a Load
	wrote  bool
	todo   []Job
}

func (a *Actor) busy() bool { return a.Access.X != nil }

// Scene is a play of actors on things that a collector, which is the last actor, moves while they go on; and what each field must have at each moment.
type Scene struct {
	M      *mem.Memory
	Way    Way
	Things [Things]Thing
	Moves  int // how many of the things, from the first one on, are moved
	Has    Values
	Stays  [Things]bool // things that are not moved any more, though they are among these
	Tally  Tally        // one for all clones

	actors []Actor
	met    []uint64 // what the collector's accesses so far answered
	since  int      // steps of actors since an access ended
}

// Tally counts by names what plays have met.
type Tally map[string]int

// Together is what plays have met each of which had a tally of its own.
func Together(tallies ...Tally) Tally {
	all := Tally{}
	for _, l := range tallies {
		for name, n := range l {
			all[name] += n
		}
	}
	return all
}

// Cases are the names of what each scene counts.
func Cases() []string {
	return []string{
		fieldChanged, swapDone, swapCanon, swapNot, thingMoved, thingStays,
	}
}

const (
	fieldChanged = "a field that has another word by then"
	swapDone     = "a Swap that is done"
	swapCanon    = "a Swap that is done of another address"
	swapNot      = "a Swap that is not done"
	thingMoved   = "a thing that was moved"
	thingStays   = "a thing that stays"
)

// Check tells which of these was never met: then plays did not have what they are for.
func (l Tally) Check(t Teller, names ...string) {
	t.Helper()
	for _, name := range names {
		if l[name] == 0 {
			t.Errorf("never met: %s", name)
		}
	}
}

// Open lays the things down, with what their fields have, and lets actors have these jobs to do.
func (s *Scene) Open(todo ...[]Job) *Scene {
	for i, x := range s.Things {
		s.M.Store(x.At, Object(0, Fields, 1))
		for k, v := range s.Has[i] {
			s.M.Store(x.At+1+k, Field(v))
		}
	}
	s.M.Take()
	for _, l := range todo {
		s.actors = append(s.actors, Actor{todo: l})
	}
	return s
}

// collect is what a collector does with the things from the ModeSweep of a cycle to its end (chapter 23), and, in mode, which one it asks for ahead of the next access.
func (s *Scene) collect(mode *int) Work {
	return func(t *Tale) api.Out {
		ask := func(asked int) {
			*mode = asked
			t.Load(api.AtPhase)
		}
		l := s.Things[:s.Moves]
		ask(api.ModeSweep)
		ask(api.ModePrep)
		for _, x := range l {
			s.Way.Prep(t, x)
		}
		ask(api.ModeCopy)
		for _, x := range l {
			s.Way.Move(t, x, false)
		}
		ask(api.ModeClose)
		for _, x := range l {
			s.Way.Move(t, x, true)
		}
		ask(api.ModeFix)
		for _, x := range s.Things {
			fixFields(t, x.At)
			fixFields(t, x.To)
		}
		ask(api.ModePlain)
		return api.Out{}
	}
}

// fixFields lets what refers to an object that was moved refer to its copy.
func fixFields(t *Tale, at int) {
	h := t.Load(at)
	if h%4 != api.CellObject || Tag(h) == api.TagMoved {
		return
	}
	for k := range Fields {
		w := t.Load(at + 1 + k)
		v := Value(w)
		if !Refers(v) {
			continue
		}
		if n := t.home(v.N); n != v.N {
			t.CAS(at+1+k, w, Field(api.Val{Kind: api.Ref, N: n}))
		}
	}
}

// tale is where the collector stands, and which mode it asks for.
func (s *Scene) tale() (*Tale, int) {
	var mode int
	t := Tell(s.collect(&mode), s.met)
	return t, mode
}

// Clone goes its own way, but for the tally.
func (s *Scene) Clone() *Scene {
	c := *s
	c.M, c.actors = s.M.Clone(), slices.Clone(s.actors)
	for i := range c.actors {
		if a := &c.actors[i]; a.busy() {
			a.Access.X = s.Way.Copy(a.Access.X)
		}
	}
	return &c
}

// Actors is how many there are, with the collector.
func (s *Scene) Actors() int { return len(s.actors) + 1 }

// Idle tells whether an actor has nothing to do any more. The collector waits while an access is under way that was begun in another mode than it asks for.
func (s *Scene) Idle(i int) bool {
	if i < len(s.actors) {
		return !s.actors[i].busy() && len(s.actors[i].todo) == 0
	}
	t, mode := s.tale()
	return t.Next == nil || slices.ContainsFunc(s.actors, func(a Actor) bool { return a.busy() && a.Mode != mode })
}

// Step is one of the actor i: what is wrong with it, or nothing.
func (s *Scene) Step(i int) string {
	if i == len(s.actors) {
		t, _ := s.tale()
		s.met = append(slices.Clip(s.met), t.Next(s.M))
		return s.holds()
	}
	a := &s.actors[i]
	if !a.busy() {
		s.begin(a)
	}
	place := s.place(a.Job)
	did, done, wrong := a.Access.Step(s.M)
	if wrong == "" {
		wrong = s.follow(a, did, place)
	}
	if wrong == "" {
		wrong = s.Way.Did(s, a, did, done)
	}
	if wrong == "" && done {
		wrong = s.told(a)
	}
	if s.since++; s.since > 48*len(s.actors) {
		wrong = "no access ended in " + number(s.since) + " steps"
	}
	if wrong != "" {
		return reqText(a.Req) + " in mode " + number(a.Mode) + ": " + accessText(did) + ", done: " + whether(done) + ": " + wrong
	}
	if done {
		s.since = 0
		*a = Actor{todo: a.todo}
	}
	return s.holds()
}

// begin lets an actor begin its next job. In ModeFix, and behind it, its references are fixed.
func (s *Scene) begin(a *Actor) {
	_, mode := s.tale()
	say := func(v api.Val) api.Val {
		if Refers(v) && (mode == api.ModeFix || mode == api.ModePlain) {
			v.N = Home(Word(s.M, v.N), v.N)
		}
		return v
	}
	j := a.todo[0]
	at := say(api.Val{Kind: api.Ref, N: s.Things[j.Thing].At}).N
	r := api.Req{Op: j.Op, At: at, Field: j.Field, Exp: say(j.Exp), New: say(j.New)}
	*a = Actor{todo: a.todo[1:], Job: j, Req: r, Mode: mode, Access: s.Way.Begin(r, mode)}
}

func (s *Scene) place(j Job) int { return s.Way.Place(s, j.Thing, j.Field) }

// follow does with the fields what an access of the actor did. The word of its field stood at that place.
func (s *Scene) follow(a *Actor, did api.Access, place int) string {
	f := &s.Has[a.Job.Thing][a.Job.Field]
	hit := a.Access.X.Hit()
	if hit {
		a.Hits++
		a.Saw = *f
		if did.Op == 1 {
			a.Said = Value(Word(s.M, did.At))
		}
	}
	switch {
	case s.M.Traps() != 0:
		return "it is a trap"
	case did.Op == 1 || did.At == s.Things[a.Job.Thing].At:
		return ""
	case !did.OK:
		s.Tally[fieldChanged]++
		return ""
	case !hit: // it moves the field on, and writes nothing
		return ""
	case written(did) != place:
		return "the field is elsewhere"
	}
	*f = a.Job.New
	a.wrote = true
	return ""
}

// written is where an access writes a field: a CAS2 has another word ahead of it.
func written(did api.Access) int {
	if did.Op == 4 {
		return did.At + 1
	}
	return did.At
}

// told is whether an access that is done had the result that it would have if it were done at once, at its last hit. One that has to wait has done nothing, and is begun anew.
func (s *Scene) told(a *Actor) string {
	j, got := a.Job, a.Access.X.Result()
	want := api.Out{}
	switch {
	case got == api.Out{Code: api.ErrBusy}:
		if a.wrote {
			return "it has to wait, but has written"
		}
		a.todo = append([]Job{j}, a.todo...)
		return ""
	case j.Op == api.Read:
		want.V = a.Saw
		got.V = s.original(got.V)
	case j.Op == api.Swap:
		want.Yes = a.Saw == j.Exp
		s.countSwap(a, got.Yes)
	}
	if a.Hits == 0 || got != want || a.wrote != (j.Op == api.Write || got.Yes) {
		return "Result is " + outText(got) + ", want " + outText(want) + ", at one of " + number(a.Hits) + " hits, written: " + whether(a.wrote)
	}
	return ""
}

func (s *Scene) countSwap(a *Actor, yes bool) {
	switch {
	case !yes:
		s.Tally[swapNot]++
	case a.Said == a.Req.Exp:
		s.Tally[swapDone]++
	default:
		s.Tally[swapCanon]++
	}
}

// original is a value with which a reference says where its thing is at first.
func (s *Scene) original(v api.Val) api.Val {
	for _, x := range s.Things {
		if Refers(v) && v.N == x.To {
			v.N = x.At
		}
	}
	return v
}

// Home is where a thing is now.
func (s *Scene) Home(thing int) int {
	at := s.Things[thing].At
	return Home(Word(s.M, at), at)
}

// holds holds each field, where it is, against what it must have.
func (s *Scene) holds() string {
	for i, l := range s.Has {
		for k, v := range l {
			if got := s.original(Value(Word(s.M, s.Way.Place(s, i, k)))); got != v {
				return fieldText(s.Things[i], k, got) + ", want " + valText(v)
			}
		}
	}
	return s.Way.Holds(s)
}

// Finish is what is wrong when all are done, or nothing: each thing was moved that was to be, if it does not stay, and is referred to by where it is.
func (s *Scene) Finish() string {
	if t, _ := s.tale(); t.Next != nil {
		return "the collector waits for ever"
	}
	for i, x := range s.Things {
		moved := s.Home(i) == x.To
		if moved != (i < s.Moves && !s.Stays[i]) {
			return thingText(x) + " is at " + number(s.Home(i))
		}
		if moved {
			s.Tally[thingMoved]++
		} else if i < s.Moves {
			s.Tally[thingStays]++
		}
		for k := range Fields {
			v := Value(Word(s.M, s.Way.Place(s, i, k)))
			if Refers(v) && Home(Word(s.M, v.N), v.N) != v.N {
				return fieldText(x, k, v) + ", which was moved"
			}
		}
	}
	return ""
}

// Key is another one of each two scenes that go on in other ways: what a machine does next hangs on what its steps have met.
func (s *Scene) Key() string {
	k := appendWords(nil, Words(s.M))
	k = appendWords(k, s.met)
	for _, stays := range s.Stays {
		k = strconv.AppendBool(k, stays)
	}
	for _, a := range s.actors {
		k = appendNumbers(k, len(a.todo), a.Mode, a.Saw.Kind, a.Saw.N)
		k = strconv.AppendBool(k, a.Hits > 0)
		k = appendWords(k, a.Access.Met)
	}
	return string(k)
}

// appendWords ends each word, and the row of them, so that no two rows are told alike, whatever is behind them.
func appendWords(k []byte, l []uint64) []byte {
	for _, w := range l {
		k = append(strconv.AppendUint(k, w, 36), ' ')
	}
	return append(k, ';')
}

func appendNumbers(k []byte, l ...int) []byte {
	for _, n := range l {
		k = append(strconv.AppendInt(k, int64(n), 36), ' ')
	}
	return k
}
