package direct

import (
	"testing"

	"flit/api"
	"flit/mem"
	"flit/watch"
)

// Where the objects of these tests stand.
const (
	base    = 96  // whose fields are accessed, three of them
	white   = 100 // an object without the mark 1
	black   = 104 // one that has it
	old     = 108 // one that was moved to now
	now     = 112
	elder   = 116 // so was this one
	free    = 120 // a free cell
	tagged  = 124 // an object that is to be moved, its copy being now
	feigned = 128 // a free cell whose tag and link are those of one that was moved to now
	listed  = 132 // a grey object
	size    = 136
)

// frozen is the bit of a field's word that says so.
const frozen = 4

func ref(at int) api.Val   { return api.Val{Kind: api.Ref, N: at} }
func scalar(n int) api.Val { return api.Val{Kind: api.Scalar, N: n} }

// homes are where the objects are that those at the addresses are one with.
var homes = map[int]int{old: now, elder: now}

// homeOf is where the object is that stands, or stood, there.
func homeOf(at int) int {
	if h, ok := homes[at]; ok {
		return h
	}
	return at
}

// values are those that a field may have: scalars, nil, a reference to each of the objects and to what is none, and what is neither.
func values() []api.Val {
	l := []api.Val{
		scalar(0), scalar(5), scalar(white), scalar(api.MaxScalar), scalar(1<<61 - 1),
		{Kind: api.Empty}, {Kind: api.Empty, N: white}, {Kind: 3}, {Kind: 3, N: old},
	}
	for _, at := range []int{0, white, black, old, now, elder, free, tagged, feigned} {
		l = append(l, ref(at))
	}
	return l
}

// hows are all ways to access a field.
func hows() []How {
	var l []How
	for b := range 16 {
		l = append(l, How{Shade: b&1 != 0, Canon: b&2 != 0, Fix: b&4 != 0, Mark: b >> 3})
	}
	return l
}

// made is a memory of these objects, of which the first field of base has that value. No other word is nought.
func made(t *testing.T, v api.Val) *mem.Memory {
	t.Helper()
	m, e := mem.New(size)
	if e != api.OK {
		t.Fatalf("mem.New: error %d", e)
	}
	for a := range size {
		m.Store(a, watch.Junk)
	}
	for a, w := range map[int]uint64{
		api.AtGrey: watch.Top(listed, 7),
		base:       watch.Object(0, 3, 0),
		base + 1:   watch.Field(v),
		white:      watch.Object(0, 2, 0),
		black:      watch.Object(0, 1, 1),
		old:        watch.Moved(0, 3, 0, now),
		now:        watch.Object(0, 3, 0),
		elder:      watch.Moved(0, 3, 1, now),
		free:       watch.Free(0, 0),
		tagged:     watch.Object(0, 3, 0) + api.TagTagged<<9 + now<<12,
		feigned:    watch.Free(0, now) + api.TagMoved<<9,
		listed:     watch.Grey(0, 0, 1, 0),
	} {
		m.Store(a, w)
	}
	m.Take()
	return m
}

// machine is a Direct, a Plain, or a Same that tells as these do.
type machine interface {
	watch.Machine
	Hit() bool
	Result() api.Out
}

// sameTells is a Same whose Result has its Yes. It has no hits.
type sameTells struct{ *Same }

func (x sameTells) Hit() bool       { return false }
func (x sameTells) Result() api.Out { return api.Out{Yes: x.Yes()} }

// look is a machine of which each step is looked at: which access it does, whether it is a hit, what is told, and what all words are behind it.
type look struct {
	t    *testing.T
	m    *mem.Memory
	x    machine
	want []uint64
}

// lookAt begins with a machine that has done no step: nothing is told, and there was no hit.
func lookAt(t *testing.T, m *mem.Memory, x machine) *look {
	t.Helper()
	l := &look{t, m, x, watch.Words(m)}
	l.told(false, api.Out{})
	return l
}

func (l *look) told(hit bool, out api.Out) {
	l.t.Helper()
	if got := l.x.Hit(); got != hit {
		l.t.Errorf("Hit is %t, want %t", got, hit)
	}
	if got := l.x.Result(); got != out {
		l.t.Errorf("Result is %v, want %v", got, out)
	}
}

// step is one behind which it is not done.
func (l *look) step(a api.Access, hit bool) {
	l.t.Helper()
	watch.Step(l.t, l.x, l.m, a, false)
	watch.CheckWords(l.t, l.m, l.want)
	l.told(hit, api.Out{})
}

// last is the step behind which it is done, with that.
func (l *look) last(a api.Access, hit bool, out api.Out) {
	l.t.Helper()
	watch.Step(l.t, l.x, l.m, a, true)
	watch.CheckWords(l.t, l.m, l.want)
	l.told(hit, out)
	watch.CheckDone(l.t, l.x, l.m)
	l.told(hit, out)
}

// stored changes a word from outside, between two steps.
func (l *look) stored(a int, w uint64) {
	l.m.Store(a, w)
	l.want[a] = w
}

// shaded is the steps of a Shade of the object to which v refers, if it does and if h says so: five, or one, if it is no object or has the mark.
func (l *look) shaded(v api.Val, h How) {
	l.t.Helper()
	if !h.Shade || v.Kind != api.Ref || v.N == 0 {
		return
	}
	w := l.want[v.N]
	l.step(watch.Load(v.N), false)
	if w%4 != api.CellObject || int(w>>7%2) == h.Mark {
		return
	}
	w = w%(1<<12)&^(1<<7) | uint64(h.Mark)<<7 | 1<<8
	l.want[v.N] = w
	l.step(watch.CAS(v.N, true), false)
	l.step(watch.Load(api.AtGrey), false)
	list := l.want[api.AtGrey]
	l.want[v.N] = w + list%4096<<12
	l.step(watch.Store(v.N), false)
	l.want[api.AtGrey] = watch.Top(v.N, int(list>>12)+1)
	l.step(watch.CAS(api.AtGrey, true), false)
}

// stores is a Write's last step.
func (l *look) stores(field int, v api.Val) {
	l.t.Helper()
	l.want[field] = watch.Field(v)
	l.last(watch.Store(field), true, api.Out{})
}

// swaps is the last step of a Swap that is done.
func (l *look) swaps(field int, v api.Val) {
	l.t.Helper()
	l.want[field] = watch.Field(v)
	l.last(watch.CAS(field, true), true, api.Out{Yes: true})
}

// fails is a Swap's CAS that finds another word.
func (l *look) fails(field int) {
	l.t.Helper()
	l.step(watch.CAS(field, false), false)
}

// atOnce is a machine that is done without a step, with that.
func atOnce(t *testing.T, m *mem.Memory, x machine, out api.Out) {
	t.Helper()
	l := &look{t, m, x, watch.Words(m)}
	count := m.Count()
	l.told(false, out)
	watch.CheckDone(t, x, m)
	l.told(false, out)
	watch.CheckWords(t, m, l.want)
	if m.Count() != count {
		t.Errorf("%d accesses", m.Count()-count)
	}
}
