package watch

import "slices"

// Play is actors whose steps may follow one another in any order.
type Play[P any] interface {
	Clone() P          // goes its own way
	Actors() int       // how many there are
	Idle(i int) bool   // whether the actor i has no step to do as things stand
	Step(i int) string // does one of it: what is wrong with it, or nothing
	Key() string       // is another one of each two plays that go on in other ways
}

// EveryOrder does each order of steps that there is, and then asks end what is wrong. What orders have come to is not gone on from once more.
func EveryOrder[P Play[P]](t Teller, p P, end func(p P) string) {
	t.Helper()
	everyOrder(t, p, end, nil, map[string]int{})
}

// everyOrder goes on behind the steps so far, and tells whether all was well: with the first order that is wrong it ends. Which keys were met is in come.
func everyOrder[P Play[P]](t Teller, p P, end func(p P) string, so []int, come map[string]int) bool {
	t.Helper()
	key := p.Key()
	if come[key]++; come[key] > 1 {
		return true
	}
	over := true
	for i := range p.Actors() {
		if p.Idle(i) {
			continue
		}
		over = false
		c := p.Clone()
		order := append(slices.Clone(so), i)
		if wrong := c.Step(i); wrong != "" {
			t.Errorf("steps %d: %s", order, wrong)
			return false
		}
		if !everyOrder(t, c, end, order, come) {
			return false
		}
	}
	if !over {
		return true
	}
	wrong := end(p)
	if wrong != "" {
		t.Errorf("steps %d: %s", so, wrong)
	}
	return wrong == ""
}

// AnyOrder does steps till none is left to do, and then asks end what is wrong. The numbers below n that pick answers tell whose step is next.
func AnyOrder[P Play[P]](t Teller, p P, end func(p P) string, pick func(n int) int) {
	t.Helper()
	for k := 0; !allIdle(p); k++ {
		i := pick(p.Actors())
		if pick(4) == 0 { // one that goes on alone for a while
			i = k / 20 % p.Actors()
		}
		if p.Idle(i) {
			continue
		}
		if wrong := p.Step(i); wrong != "" {
			t.Errorf("step %d, of the actor %d: %s", k, i, wrong)
			return
		}
	}
	if wrong := end(p); wrong != "" {
		t.Errorf("at the end: %s", wrong)
	}
}

func allIdle[P Play[P]](p P) bool {
	for i := range p.Actors() {
		if !p.Idle(i) {
			return false
		}
	}
	return true
}
