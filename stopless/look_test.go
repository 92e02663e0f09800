package stopless

import (
	"math"
	"testing"

	"flit/api"
	"flit/mem"
	"flit/watch"
)

// Where the objects of these tests stand.
const (
	base    = 32 // whose fields are accessed, three of them
	copied  = 36 // its final copy
	wide    = 40 // its wide object, eight words
	there   = 48 // an object
	old     = 52 // one that was moved to now
	now     = 56
	elder   = 60 // so was this one
	onWay   = 64 // one that is on its way
	feigned = 68 // a free cell whose tag and link are those of one that was moved to now
	size    = 72
)

// Where the first field of base may be: the word in the original, the pair, and the word in the final copy.
const (
	field = base + 1
	pairs = wide + 2
	final = copied + 1
)

// frozen is the bit of a field's word that says so.
const frozen = 4

func ref(at int) api.Val   { return api.Val{Kind: api.Ref, N: at} }
func scalar(n int) api.Val { return api.Val{Kind: api.Scalar, N: n} }
func empty() uint64        { return watch.Field(api.Val{Kind: api.Empty}) }

// stale is what a field has where it is not: nobody may find it.
func stale() api.Val { return api.Val{Kind: 3, N: 1} }

// header is that of base, or of its copy.
func header(tag, link int) uint64 { return watch.Tagged(0, 3, 0, tag, link) }

// values are those that a field may have.
func values() []api.Val {
	l := []api.Val{scalar(0), scalar(5), scalar(there), scalar(1<<61 - 1), {Kind: api.Empty}, {Kind: 3, N: old}}
	for _, at := range []int{0, base, copied, wide, there, old, now, elder, onWay, feigned} {
		l = append(l, ref(at))
	}
	return l
}

// lowModes are those in which nothing is on its way, openModes those in which a field is written where it is, closingModes those in which it is written where it ends alone; some are no modes.
func lowModes() []int     { return []int{0, 1, 2, 3, 4, -1, -8, math.MinInt} }
func openModes() []int    { return []int{5, 6} }
func closingModes() []int { return []int{7, 8, 9, 16, math.MaxInt} }
func highModes() []int    { return append(openModes(), closingModes()...) }

func env(mode int) api.Env { return api.Env{Mode: mode, Mark: 1, Alpha: 5} }

// fixes tells whether a Read follows references in a mode, closes whether fields are written where they end alone.
func fixes(mode int) bool  { return mode == 8 }
func closes(mode int) bool { return mode >= 7 }

// swaps are those of the first field of base, with each thing expected, that lay down w.
func swaps(w api.Val) []api.Req {
	var l []api.Req
	for _, exp := range values() {
		l = append(l, api.Req{Op: api.Swap, At: base, Exp: exp, New: w})
	}
	return l
}

// accesses are those of it: each Op, with each thing expected, and some that are laid down.
func accesses() []api.Req {
	l := []api.Req{{Op: api.Read, At: base, Exp: scalar(5), New: ref(there)}}
	for _, w := range []api.Val{scalar(6), ref(0), ref(old)} {
		l = append(l, api.Req{Op: api.Write, At: base, Exp: scalar(5), New: w})
		l = append(l, swaps(w)...)
	}
	return l
}

// writing are those that lay down w, if the field has v.
func writing(v, w api.Val) []api.Req {
	return []api.Req{{Op: api.Write, At: base, New: w}, {Op: api.Swap, At: base, Exp: v, New: w}}
}

// made is a memory in which base has that header, and its first field that value, while all pairs say that fields are there. No word outside of these is nought.
func made(t *testing.T, h uint64, v api.Val) *mem.Memory {
	t.Helper()
	m := watch.Full(t, size)
	for a, w := range map[int]uint64{
		api.AtGrey: watch.Top(0, 7),
		base:       h,
		field:      watch.Field(v),
		copied:     header(api.TagNone, 0),
		wide:       watch.Wide(1, 3, copied),
		there:      watch.Object(0, 2, 0),
		old:        watch.Moved(0, 3, 0, now),
		now:        watch.Object(0, 3, 0),
		elder:      watch.Moved(0, 3, 1, now),
		onWay:      watch.Tagged(0, 3, 0, api.TagWide, there),
		feigned:    watch.Free(0, now) + api.TagMoved<<9,
	} {
		m.Store(a, w)
	}
	for k := range 3 {
		m.Store(copied+1+k, empty())
		m.Store(pairs+2*k, 0)
		m.Store(pairs+2*k+1, 0)
	}
	m.Take()
	return m
}

// madeMoved is one in which base was moved to its copy, whose first field has that value, while that of base has another one.
func madeMoved(t *testing.T, v api.Val) *mem.Memory {
	t.Helper()
	m := made(t, header(api.TagMoved, copied), stale())
	m.Store(final, watch.Field(v))
	m.Take()
	return m
}

// madeWide is one in which base is on its way, and its first field, which has that value, has come to that status.
func madeWide(t *testing.T, status uint64, v api.Val) *mem.Memory {
	t.Helper()
	m := made(t, header(api.TagWide, wide), v)
	if status == api.InOriginal {
		return m
	}
	m.Store(field, watch.Field(stale())|frozen)
	m.Store(pairs, status)
	m.Store(pairs+1, watch.Field(v))
	if status >= api.InFinal {
		m.Store(pairs+1, watch.Field(stale()))
		m.Store(final, watch.Field(v))
	}
	m.Take()
	return m
}

// madeFrozen is one in which its first field is frozen, but no pair is open yet.
func madeFrozen(t *testing.T, v api.Val) *mem.Memory {
	t.Helper()
	m := madeWide(t, api.InOriginal, v)
	m.Store(field, watch.Field(v)|frozen)
	m.Take()
	return m
}

// look looks at an Access's steps.
type look struct{ *watch.Look }

func lookAt(t *testing.T, m *mem.Memory, r api.Req, mode int) look {
	t.Helper()
	return look{watch.LookAt(t, m, New(r, env(mode)))}
}

// lookOnWay is one behind the step 1, of an object that is on its way.
func lookOnWay(t *testing.T, m *mem.Memory, r api.Req, mode int) look {
	t.Helper()
	l := lookAt(t, m, r, mode)
	l.Step(watch.Load(base), false)
	return l
}

// status is a look at the pair's status, behind which it is not done.
func (l look) status() {
	l.T.Helper()
	l.Step(watch.Load(pairs), false)
}

// value is a look at the pair's value.
func (l look) value() {
	l.T.Helper()
	l.Step(watch.Load(pairs+1), true)
}

// original is a look at the field in the original, behind which it is not done.
func (l look) original() {
	l.T.Helper()
	l.Step(watch.Load(field), true)
}

// link is a look for the final copy.
func (l look) link() {
	l.T.Helper()
	l.Step(watch.Load(wide), false)
}

// freezes is the CAS that freezes the field in the original.
func (l look) freezes() {
	l.T.Helper()
	l.Want[field] |= frozen
	l.Step(watch.CAS(field, true), false)
}

// lets is a CAS2 that helps: the pair is that by then.
func (l look) lets(status, value uint64) {
	l.T.Helper()
	l.Want[pairs], l.Want[pairs+1] = status, value
	l.Step(watch.CAS2(pairs, true), false)
}

// opens is the one that opens the pair, with what the original has.
func (l look) opens() {
	l.T.Helper()
	l.lets(api.InWide, l.Want[field]&^frozen)
}

// shuts is the one that shuts it, ends the one that says that the field is in the final copy.
func (l look) shuts() {
	l.T.Helper()
	l.lets(api.Shut, l.Want[pairs+1])
}

func (l look) ends() {
	l.T.Helper()
	l.lets(api.InFinal, l.Want[pairs+1])
}

// fills is the CAS that lays the field down in the final copy.
func (l look) fills() {
	l.T.Helper()
	l.Want[final] = l.Want[pairs+1]
	l.Step(watch.CAS(final, true), false)
}

// changed is a CAS2 that helps nobody any more, or writes nothing: the pair is another one by then.
func (l look) changed() {
	l.T.Helper()
	l.Step(watch.CAS2(pairs, false), false)
}

// writesThere is the CAS with which an access is done in the original, writesOpen the CAS2 with which it is in the pair.
func (l look) writesThere(r api.Req) {
	l.T.Helper()
	l.Want[field] = watch.Field(r.New)
	l.Last(watch.CAS(field, true), true, api.Out{Yes: r.Op == api.Swap})
}

func (l look) writesOpen(r api.Req) {
	l.T.Helper()
	l.Want[pairs+1] = watch.Field(r.New)
	l.Last(watch.CAS2(pairs, true), true, api.Out{Yes: r.Op == api.Swap})
}

// tells is the step behind which an access is done that writes nothing, of a field that has v.
func (l look) tells(a int, hit bool, r api.Req, v api.Val) {
	l.T.Helper()
	if r.Op != api.Read {
		v = api.Val{}
	}
	l.Last(watch.Load(a), hit, api.Out{V: v})
}

// writes tells whether an access lays something down in a field that has v.
func writes(r api.Req, v api.Val) bool {
	return r.Op == api.Write || r.Op == api.Swap && v == r.Exp
}

// goesOn is all steps from the step 2 on, of an access that is alone with the first field of base from there on.
func (l look) goesOn(r api.Req, mode int) {
	l.T.Helper()
	l.status()
	l.goesBy(r, mode)
}

// goesBy is those behind a look at the status.
func (l look) goesBy(r api.Req, mode int) {
	l.T.Helper()
	switch l.Want[pairs] {
	case api.InOriginal:
		l.goesThere(r, mode)
	case api.InWide:
		l.goesOpen(r, mode)
	case api.Shut:
		l.goesShut(r, mode)
	default:
		l.link()
		l.Direct(watch.Link(l.Want[wide]), r, fixes(mode))
	}
}

// goesThere is those from the step 3 on.
func (l look) goesThere(r api.Req, mode int) {
	l.T.Helper()
	v := watch.Value(l.Want[field])
	switch {
	case l.Want[field]&frozen != 0:
		l.original()
		l.opens()
		l.goesOn(r, mode)
	case !writes(r, v):
		l.tells(field, true, r, v)
	case closes(mode):
		l.original()
		l.freezes()
		l.goesThere(r, mode)
	default:
		l.original()
		l.writesThere(r)
	}
}

// goesOpen is those from the step 6 on.
func (l look) goesOpen(r api.Req, mode int) {
	l.T.Helper()
	v := watch.Value(l.Want[pairs+1])
	l.value()
	switch {
	case !writes(r, v):
		l.tells(pairs, false, r, v)
	case closes(mode):
		l.shuts()
		l.goesOn(r, mode)
	default:
		l.writesOpen(r)
	}
}

// goesShut is those from the step 8 on.
func (l look) goesShut(r api.Req, mode int) {
	l.T.Helper()
	v := watch.Value(l.Want[pairs+1])
	l.value()
	if !writes(r, v) {
		l.tells(pairs, false, r, v)
		return
	}
	l.link()
	if l.Want[final] == empty() {
		l.fills()
	} else {
		l.Fails(final)
	}
	l.ends()
	l.goesOn(r, mode)
}
