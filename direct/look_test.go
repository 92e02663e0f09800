package direct

import (
	"testing"

	"flit/api"
	"flit/mem"
	"flit/watch"
)

// Where the objects of these tests stand.
const (
	base    = 96  // whose fields are accessed, three of them
	white   = 100 // an object without the mark 1
	black   = 104 // one that has it
	old     = 108 // one that was moved to now
	now     = 112
	elder   = 116 // so was this one
	free    = 120 // a free cell
	tagged  = 124 // an object that is to be moved, its copy being now
	feigned = 128 // a free cell whose tag and link are those of one that was moved to now
	listed  = 132 // a grey object
	size    = 136
)

// frozen is the bit of a field's word that says so.
const frozen = 4

func ref(at int) api.Val   { return api.Val{Kind: api.Ref, N: at} }
func scalar(n int) api.Val { return api.Val{Kind: api.Scalar, N: n} }

// homes are where the objects are that those at the addresses are one with.
var homes = map[int]int{old: now, elder: now}

// homeOf is where the object is that stands, or stood, there.
func homeOf(at int) int {
	if h, ok := homes[at]; ok {
		return h
	}
	return at
}

// values are those that a field may have: scalars, nil, a reference to each of the objects and to what is none, and what is neither.
func values() []api.Val {
	l := []api.Val{
		scalar(0), scalar(5), scalar(white), scalar(api.MaxScalar), scalar(1<<61 - 1),
		{Kind: api.Empty}, {Kind: api.Empty, N: white}, {Kind: 3}, {Kind: 3, N: old},
	}
	for _, at := range []int{0, white, black, old, now, elder, free, tagged, feigned} {
		l = append(l, ref(at))
	}
	return l
}

// hows are all ways to access a field.
func hows() []How {
	var l []How
	for b := range 16 {
		l = append(l, How{Shade: b&1 != 0, Canon: b&2 != 0, Fix: b&4 != 0, Mark: b >> 3})
	}
	return l
}

// made is a memory of these objects, of which the first field of base has that value. No other word is nought.
func made(t *testing.T, v api.Val) *mem.Memory {
	t.Helper()
	m := watch.Full(t, size)
	for a, w := range map[int]uint64{
		api.AtGrey: watch.Top(listed, 7),
		base:       watch.Object(0, 3, 0),
		base + 1:   watch.Field(v),
		white:      watch.Object(0, 2, 0),
		black:      watch.Object(0, 1, 1),
		old:        watch.Moved(0, 3, 0, now),
		now:        watch.Object(0, 3, 0),
		elder:      watch.Moved(0, 3, 1, now),
		free:       watch.Free(0, 0),
		tagged:     watch.Object(0, 3, 0) + api.TagTagged<<9 + now<<12,
		feigned:    watch.Free(0, now) + api.TagMoved<<9,
		listed:     watch.Grey(0, 0, 1, 0),
	} {
		m.Store(a, w)
	}
	m.Take()
	return m
}

// sameTells is a Same whose Result has its Yes. It has no hits.
type sameTells struct{ *Same }

func (x sameTells) Hit() bool       { return false }
func (x sameTells) Result() api.Out { return api.Out{Yes: x.Yes()} }

// look looks at a machine's steps, those that shade too.
type look struct{ *watch.Look }

func lookAt(t *testing.T, m *mem.Memory, x watch.Accessor) look {
	t.Helper()
	return look{watch.LookAt(t, m, x)}
}

// shaded is the steps of a Shade of the object to which v refers, if it does and if h says so.
func (l look) shaded(v api.Val, h How) {
	l.T.Helper()
	if h.Shade && watch.Refers(v) {
		l.Shaded(v.N, h.Mark)
	}
}
