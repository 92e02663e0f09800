package watch

import (
	"testing"

	"flit/api"
	"flit/direct"
	"flit/grey"
	"flit/mem"
	"flit/plan"
	"flit/shake"
)

// telling is a row that tells, behind each of its parts, what is written down for it; ahead of the first one, the first of these.
type telling struct {
	row
	hits []bool
	outs []api.Out
}

func (x *telling) Hit() bool       { return x.hits[x.k] }
func (x *telling) Result() api.Out { return x.outs[x.k] }

// swapping reads the word 2, which is a hit, and lets the word 1 be 7 then.
func swapping() *telling {
	return &telling{
		row{l: []func(m *mem.Memory){loadTwo, swapOne}},
		[]bool{false, true, true},
		[]api.Out{{}, {}, {Yes: true}},
	}
}

// A look at steps that are what they must be finds nothing.
func TestLook(t *testing.T) {
	m := made(t)
	l := LookAt(t, m, swapping())
	l.Step(Load(2), true)
	l.Want[1] = 7
	l.Last(CAS(1, true), true, api.Out{Yes: true})

	m = made(t)
	m.Store(1, Field(api.Val{N: 3}))
	store := func(m *mem.Memory) { m.Store(1, Field(api.Val{N: 4})) }
	swap := func(m *mem.Memory) { m.CAS(1, Field(api.Val{N: 4}), Field(api.Val{N: 5})) }
	l = LookAt(t, m, &telling{row{l: []func(m *mem.Memory){swap, store}}, []bool{false, false, true}, make([]api.Out, 3)})
	l.Fails(1)
	l.Stored(2, 6)
	l.Stores(1, api.Val{N: 4})
	l = LookAt(t, m, &telling{row{l: []func(m *mem.Memory){swap}}, []bool{false, true}, []api.Out{{}, {Yes: true}}})
	l.Swaps(1, api.Val{N: 5})
	AtOnce(t, m, &telling{row{}, []bool{false}, []api.Out{{Code: api.ErrNil}}}, api.Out{Code: api.ErrNil})
}

// What is not as it must be is told.
func TestLookThatFinds(t *testing.T) {
	for name, look := range map[string]func(l *Look){
		"no hit":          func(l *Look) { l.Step(Load(2), false) },
		"another access":  func(l *Look) { l.Step(Load(3), true) },
		"not done yet":    func(l *Look) { l.Last(Load(2), true, api.Out{}) },
		"another word":    func(l *Look) { l.Want[5]++; l.Step(Load(2), true) },
		"something told":  func(l *Look) { l.Told(false, api.Out{Yes: true}) },
		"a hit too early": func(l *Look) { l.Told(true, api.Out{}) },
	} {
		var f faults
		look(LookAt(&f, made(t), swapping()))
		if f == 0 {
			t.Errorf("%s: nothing is found", name)
		}
	}
	var f faults
	early := swapping()
	early.hits[0] = true
	LookAt(&f, made(t), early)
	if f != 1 {
		t.Errorf("a hit ahead of the first step: %d faults", f)
	}
	f = 0
	AtOnce(&f, made(t), &telling{row{}, []bool{false}, []api.Out{{}}}, api.Out{Code: api.ErrNil})
	if f == 0 {
		t.Error("nothing is found of something else that is told at once")
	}
	f = 0
	AtOnce(&f, made(t), swapping(), api.Out{})
	if f == 0 {
		t.Error("nothing is found of a machine that is not done at once")
	}
}

// The steps of a Direct that a look asks for are those of layer 12.
func TestLookAtDirect(t *testing.T) {
	const at, old, now, size = 8, 12, 16, 20
	refTo := func(n int) api.Val { return api.Val{Kind: api.Ref, N: n} }
	values := []api.Val{{}, {N: 5}, {Kind: api.Empty}, refTo(0), refTo(at), refTo(old), refTo(now)}
	for op := api.Read; op <= api.Swap; op++ {
		for _, v := range values {
			for _, exp := range values {
				for _, fix := range []bool{false, true} {
					m, _ := mem.New(size)
					m.Store(old, Moved(0, 1, 0, now))
					m.Store(at+2, Field(v))
					r := api.Req{Op: op, Field: 1, Exp: exp, New: refTo(now)}
					x := direct.NewDirect(at, r, direct.How{Canon: true, Fix: fix})
					LookAt(t, m, x).Direct(at, r, fix)
				}
			}
		}
	}
	var f faults
	m := made(t)
	LookAt(&f, m, direct.NewDirect(0, api.Req{Op: api.Read}, direct.How{})).Direct(1, api.Req{Op: api.Read}, false)
	if f == 0 {
		t.Error("nothing is found of a Direct elsewhere")
	}
}

// The steps of a Shade that a look asks for are those of layer 11, as a Direct does them that shades what it writes.
func TestLookAtShade(t *testing.T) {
	const at, old, size = 8, 12, 20
	write := api.Req{Op: api.Write, New: api.Val{Kind: api.Ref, N: old}}
	begun := func(t Teller, m *mem.Memory, mark int) *Look {
		l := LookAt(t, m, direct.NewDirect(at, write, direct.How{Shade: true, Mark: mark}))
		l.Step(Load(at+1), false)
		return l
	}
	for _, header := range []uint64{0, Free(0, 16), Moved(1, 5, 0, 16), Moved(1, 5, 1, 16), Object(1, 7, 0) | 3<<40} {
		for mark := range 2 {
			m, _ := mem.New(size)
			m.Store(api.AtGrey, Top(16, 1<<40-1))
			m.Store(old, header)
			l := begun(t, m, mark)
			l.Shaded(old, mark)
			l.Stores(at+1, write.New)
		}
	}
	for name, shade := range map[string]func(l *Look){
		"a Shade elsewhere":    func(l *Look) { l.Shaded(old+1, 1) },
		"one of another mark":  func(l *Look) { l.Shaded(old, 0); l.Stores(at+1, write.New) },
		"one without the list": func(l *Look) { l.Listed(old) },
	} {
		var f faults
		m, _ := mem.New(size)
		m.Store(old, Object(0, 1, 0))
		shade(begun(&f, m, 1))
		if f == 0 {
			t.Errorf("nothing is found of %s", name)
		}
	}
}

// A machine that is quiet steps, and tells nothing.
func TestQuiet(t *testing.T) {
	m := made(t)
	x := Quiet{swapping()}
	l := LookAt(t, m, x)
	l.Step(Load(2), false)
	l.Want[1] = 7
	l.Last(CAS(1, true), false, api.Out{})
}

// then is two machines, one behind the other.
type then struct{ first, second Machine }

func (x *then) Step(m *mem.Memory) bool {
	if x.first == nil {
		return x.second.Step(m)
	}
	if x.first.Step(m) {
		x.first = nil
	}
	return false
}

// The steps of a Next that a look asks for are those of layer 11.
func TestLookAtNext(t *testing.T) {
	const first, second, size = 8, 12, 20
	begun := func(t Teller, version int) *Look {
		m, _ := mem.New(size)
		m.Store(api.AtGrey, Top(first, version))
		m.Store(first, Grey(1, 5, 1, second)|3<<40|api.TagMoved<<9)
		m.Store(second, Grey(0, 2, 0, 0))
		return LookAt(t, m, Quiet{&then{grey.NewNext(), grey.NewNext()}})
	}
	for _, version := range []int{0, 77, 1<<40 - 1} {
		l := begun(t, version)
		if at := l.Taken(); at != first {
			t.Errorf("%d is taken", at)
		}
		l.Step(Load(api.AtGrey), false)
	}
	for name, look := range map[string]func(l *Look){
		"a Next of another list": func(l *Look) { l.Want[api.AtGrey]++; l.Taken() },
		"one of another object":  func(l *Look) { l.Want[first] -= 1 << 12; l.Taken() },
		"one that is done":       func(l *Look) { l.Taken(); l.Taken() },
	} {
		var f faults
		look(begun(&f, 3))
		if f == 0 {
			t.Errorf("nothing is found of %s", name)
		}
	}
}

// The steps of an Ask that a look asks for are those of layer 16.
func TestLookAtAsk(t *testing.T) {
	q := api.Phase{No: 1<<40 - 1, Mode: api.ModeTerm, Mark: 1}
	begun := func(t Teller) *Look {
		p, _ := plan.New(3, 1)
		m, _ := mem.New(p.Size)
		return LookAt(t, m, Quiet{shake.NewAsk(p, q)})
	}
	l := begun(t)
	l.Acknowledged(q.No, 1)
	l.Asks(q)
	l.Looks(0, 0)
	l.Acknowledged(q.No, 0, 2)
	l.Looks(0, 1)
	l.Last(Load(api.AtAcks+2), false, api.Out{})
	for name, look := range map[string]func(l *Look){
		"an Ask of another phase":        func(l *Look) { l.Asks(api.Phase{No: q.No}) },
		"a look at another thread":       func(l *Look) { l.Asks(q); l.Looks(1) },
		"one that nobody has answered":   func(l *Look) { l.Asks(q); l.Looks(0, 1) },
		"one that has another No's word": func(l *Look) { l.Asks(q); l.Acknowledged(5, 0); l.Looks(0, 1) },
	} {
		var f faults
		look(begun(&f))
		if f == 0 {
			t.Errorf("nothing is found of %s", name)
		}
	}
}

// Two Accessors that do the same are alike; others are told.
func TestAlike(t *testing.T) {
	Alike(t, made(t), swapping(), swapping())
	for name, change := range map[string]func(x *telling){
		"another access": func(x *telling) { x.l[0] = loadTwice },
		"a step less":    func(x *telling) { x.l = x.l[:1] },
		"another hit":    func(x *telling) { x.hits[1] = false },
		"another Out":    func(x *telling) { x.outs[2] = api.Out{} },
		"another word":   func(x *telling) { x.l[1] = func(m *mem.Memory) { m.CAS(1, 0, 8) } },
	} {
		var f faults
		x := swapping()
		change(x)
		Alike(&f, made(t), x, swapping())
		if f == 0 {
			t.Errorf("%s: nothing is found", name)
		}
	}
}

// A copy that goes its own way is as it must be; one that shares something with the other is told.
func TestCheckCopies(t *testing.T) {
	r := api.Req{Op: api.Swap, Exp: api.Val{}, New: api.Val{N: 2}}
	begin := func() Accessor { return direct.NewDirect(-1, r, direct.How{}) }
	CheckCopies(t, made(t), begin, func(x Accessor) Accessor {
		y := *x.(*direct.Direct)
		return &y
	})
	var f faults
	CheckCopies(&f, made(t), begin, func(x Accessor) Accessor { return x })
	if f == 0 {
		t.Error("nothing is found of a copy that is none")
	}
}
