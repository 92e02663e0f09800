package chicken

import (
	"math"
	"testing"

	"flit/api"
	"flit/mem"
	"flit/watch"
)

// Where the objects of these tests stand.
const (
	base    = 32 // whose fields are accessed, three of them
	copied  = 36 // its copy
	there   = 40 // an object
	old     = 44 // one that was moved to now
	now     = 48
	elder   = 52 // so was this one
	tagged  = 56 // one that is to be moved, its copy being there
	feigned = 60 // a free cell whose tag and link are those of one that was moved to now
	size    = 64
)

// frozen is the bit of a field's word that says so.
const frozen = 4

func ref(at int) api.Val   { return api.Val{Kind: api.Ref, N: at} }
func scalar(n int) api.Val { return api.Val{Kind: api.Scalar, N: n} }

// header is that of base, or of its copy.
func header(tag, link int) uint64 { return watch.Tagged(0, 3, 0, tag, link) }

// values are those that a field may have.
func values() []api.Val {
	l := []api.Val{scalar(0), scalar(5), scalar(there), scalar(1<<61 - 1), {Kind: api.Empty}, {Kind: 3, N: old}}
	for _, at := range []int{0, base, copied, there, old, now, elder, tagged, feigned} {
		l = append(l, ref(at))
	}
	return l
}

// lowModes are those in which nothing is on its way, highModes the others; some are no modes.
func lowModes() []int  { return []int{0, 1, 2, 3, 4, -1, -8, math.MinInt} }
func highModes() []int { return []int{5, 6, 7, 8, 9, 16, math.MaxInt} }

// fixes tells whether a Read follows references in a mode.
func fixes(mode int) bool { return mode == 8 }

// accesses are those of the first field of base, if it has v: each Op, with each thing expected, and some that are laid down.
func accesses(v api.Val) []api.Req {
	l := []api.Req{{Op: api.Read, At: base, Exp: v, New: ref(there)}}
	for _, w := range []api.Val{scalar(6), ref(0), ref(old)} {
		l = append(l, api.Req{Op: api.Write, At: base, Exp: v, New: w})
		for _, exp := range values() {
			l = append(l, api.Req{Op: api.Swap, At: base, Exp: exp, New: w})
		}
	}
	return l
}

// made is a memory in which base has that header, and its first field that value. No other word is nought.
func made(t *testing.T, h uint64, v api.Val) *mem.Memory {
	t.Helper()
	m := watch.Full(t, size)
	for a, w := range map[int]uint64{
		api.AtGrey: watch.Top(0, 7),
		base:       h,
		base + 1:   watch.Field(v),
		copied:     header(api.TagNone, 0),
		there:      watch.Object(0, 2, 0),
		old:        watch.Moved(0, 3, 0, now),
		now:        watch.Object(0, 3, 0),
		elder:      watch.Moved(0, 3, 1, now),
		tagged:     watch.Tagged(0, 3, 0, api.TagTagged, there),
		feigned:    watch.Free(0, now) + api.TagMoved<<9,
	} {
		m.Store(a, w)
	}
	m.Take()
	return m
}

// madeMoved is one in which base was moved to its copy, whose first field has that value, while that of base has another one.
func madeMoved(t *testing.T, v api.Val) *mem.Memory {
	t.Helper()
	m := made(t, header(api.TagMoved, copied), api.Val{Kind: 3, N: 1})
	m.Store(copied+1, watch.Field(v))
	m.Take()
	return m
}

// look looks at an Access's steps.
type look struct{ *watch.Look }

func lookAt(t *testing.T, m *mem.Memory, r api.Req, mode int) look {
	t.Helper()
	return look{watch.LookAt(t, m, New(r, api.Env{Mode: mode, Mark: 1}))}
}

// takes is the CAS that takes the tag away.
func (l look) takes() {
	l.T.Helper()
	l.Want[base] &= 0x1ff
	l.Step(watch.CAS(base, true), false)
}
