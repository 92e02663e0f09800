package clover

import (
	"math"
	"testing"

	"flit/api"
	"flit/mem"
	"flit/plan"
	"flit/watch"
)

// Where the objects of these tests stand: up to feigned in a block that is emptied, from copied on in one that is not, but for the last two.
const (
	base    = 36 // whose fields are accessed, three of them
	there   = 40 // an object
	old     = 44 // one that was moved to now
	now     = 48
	elder   = 52 // so was this one
	tagged  = 56 // one that is claimed, its copy being there
	feigned = 60 // a free cell whose tag and link are those of one that was moved to now
	copied  = 64 // the copy of base
	ahead   = 16 // ahead of all blocks
	behind  = 96 // behind them
	size    = 104
)

// alpha is the number of the sentinel.
const alpha = 9

// frozen is the bit of a field's word that says so.
const frozen = 4

func ref(at int) api.Val   { return api.Val{Kind: api.Ref, N: at} }
func scalar(n int) api.Val { return api.Val{Kind: api.Scalar, N: n} }
func sentinel() api.Val    { return scalar(alpha) }

// planned is a plan of two blocks: the table at 11, the blocks at 32 and 64.
func planned(t *testing.T) api.Plan {
	t.Helper()
	p, e := plan.New(1, 2)
	if e != api.OK || (p != api.Plan{Threads: 1, Blocks: 2, Table: 11, Heap: 32, Size: 96}) {
		t.Fatalf("plan.New: %v, error %d", p, e)
	}
	return p
}

func env(mode int) api.Env { return api.Env{Mode: mode, Mark: 1, Alpha: alpha} }

// header is that of base, or of its copy.
func header(tag, link int) uint64 { return watch.Tagged(0, 3, 0, tag, link) }

// values are those that a field may have, all but the sentinel; some have its number.
func values() []api.Val {
	l := []api.Val{scalar(0), scalar(5), scalar(alpha + 1), scalar(1<<61 - 1), {Kind: api.Empty}, {Kind: api.Empty, N: alpha}, {Kind: 3, N: alpha}}
	for _, at := range []int{0, alpha, base, copied, there, old, now, elder, tagged, feigned} {
		l = append(l, ref(at))
	}
	return l
}

// lowModes are those in which nothing is on its way, highModes the others; some are no modes.
func lowModes() []int  { return []int{0, 1, 2, 3, 4, -1, -8, math.MinInt} }
func highModes() []int { return []int{5, 6, 7, 8, 9, 16, math.MaxInt} }

// fixes tells whether a Read follows references in a mode, closes whether nobody writes any more in it where a field was.
func fixes(mode int) bool  { return mode == 8 }
func closes(mode int) bool { return mode >= 7 }

// writing are accesses of the first field of base that lay down w: a Write, and a Swap that expects each thing.
func writing(w api.Val) []api.Req {
	l := []api.Req{{Op: api.Write, At: base, Exp: scalar(5), New: w}}
	for _, exp := range append(values(), sentinel()) {
		l = append(l, api.Req{Op: api.Swap, At: base, Exp: exp, New: w})
	}
	return l
}

// accesses are Reads of it, and those that lay down this and that, not the sentinel.
func accesses() []api.Req {
	l := []api.Req{{Op: api.Read, At: base}, {Op: api.Read, At: base, Exp: scalar(5), New: sentinel()}}
	for _, w := range []api.Val{scalar(6), ref(0), ref(alpha), ref(old), {Kind: api.Empty, N: alpha}} {
		l = append(l, writing(w)...)
	}
	return l
}

// made is a memory in which base has that header, and its first field that value. No other word is nought.
func made(t *testing.T, h uint64, v api.Val) *mem.Memory {
	t.Helper()
	m := watch.Full(t, size)
	for a, w := range map[int]uint64{
		api.AtGrey:  watch.Top(0, 7),
		api.AtAlpha: watch.Object(0, 1, 0), // so that a reference to the sentinel's number is one to an object
		11:          watch.Block(api.BlockEvac, 0, 1, 0),
		12:          watch.Block(api.BlockUsed, 0, 1, 0),
		base:        h,
		base + 1:    watch.Field(v),
		copied:      header(api.TagNone, 0),
		there:       watch.Object(0, 2, 0),
		old:         watch.Moved(0, 3, 0, now),
		now:         watch.Object(0, 3, 0),
		elder:       watch.Moved(0, 3, 1, now),
		tagged:      watch.Tagged(0, 3, 0, api.TagClaimed, there),
		feigned:     watch.Free(0, now) + api.TagMoved<<9,
		ahead:       watch.Object(0, 3, 0),
		behind:      watch.Object(0, 3, 0),
	} {
		m.Store(a, w)
	}
	m.Take()
	return m
}

// madeClaimed is one in which base is claimed, with its field where it was.
func madeClaimed(t *testing.T, v api.Val) *mem.Memory {
	t.Helper()
	return made(t, header(api.TagClaimed, copied), v)
}

// madeAway is one in which base has that tag, and its first field is in its copy: where it was the word is the sentinel's.
func madeAway(t *testing.T, tag int, v api.Val) *mem.Memory {
	t.Helper()
	m := made(t, header(tag, copied), sentinel())
	m.Store(copied+1, watch.Field(v))
	m.Take()
	return m
}

// look looks at an Access's steps.
type look struct{ *watch.Look }

func lookAt(t *testing.T, m *mem.Memory, r api.Req, mode int) look {
	t.Helper()
	return look{watch.LookAt(t, m, New(planned(t), r, env(mode)))}
}

// waits is the step behind which it is done, as it has to wait.
func (l look) waits(at int, hit bool) {
	l.T.Helper()
	l.Last(watch.Load(at), hit, api.Out{Code: api.ErrBusy})
}

// writes is the CAS with which an access of an object that is claimed is done where the field was.
func (l look) writes(r api.Req) {
	l.T.Helper()
	field := r.At + 1 + r.Field
	l.Want[field] = watch.Field(r.New)
	l.Last(watch.CAS(field, true), true, api.Out{Yes: r.Op == api.Swap})
}

// claimed is all steps from the step 3 on, of an access of an object that is claimed, with its copy at to.
func (l look) claimed(r api.Req, mode, to int) {
	l.T.Helper()
	field := r.At + 1 + r.Field
	v := watch.Value(l.Want[field])
	switch {
	case l.Want[field] == watch.Field(sentinel()):
		l.Step(watch.Load(field), true)
		l.Direct(to, r, fixes(mode))
	case r.Op == api.Read:
		l.Last(watch.Load(field), true, api.Out{V: v})
	case r.Op == api.Swap && v != r.Exp:
		l.Last(watch.Load(field), true, api.Out{})
	case r.New == sentinel() || closes(mode):
		l.waits(field, true)
	default:
		l.Step(watch.Load(field), true)
		l.writes(r)
	}
}
