package watch

import (
	"math/rand"
	"slices"
	"strings"
	"testing"
)

// spelling is a play of actors that have letters to write, one a step. A blank is one that is not written till the others have written theirs.
type spelling struct {
	todo    []string
	text    string
	wrong   string // a text that must not come
	visited *[]string
}

func (p *spelling) Clone() *spelling {
	c := *p
	c.todo = slices.Clone(p.todo)
	return &c
}

func (p *spelling) Actors() int { return len(p.todo) }

func (p *spelling) Idle(i int) bool {
	s := p.todo[i]
	return s == "" || s[0] == ' ' && strings.TrimLeft(strings.Join(p.todo, ""), " ") != ""
}

func (p *spelling) Step(i int) string {
	p.text += p.todo[i][:1]
	p.todo[i] = p.todo[i][1:]
	if p.text == p.wrong {
		return "it is " + p.wrong
	}
	return ""
}

func (p *spelling) Key() string { return p.text + "; " + strings.Join(p.todo, ";") }

func (p *spelling) end() string {
	*p.visited = append(*p.visited, p.text)
	if p.text+"." == p.wrong {
		return "it ends as " + p.text
	}
	return ""
}

// Every order comes once, and no other; of those that come to the same one alone goes on.
func TestEveryOrder(t *testing.T) {
	var l []string
	EveryOrder(t, &spelling{todo: []string{"ab", "c", ""}, visited: &l}, (*spelling).end)
	if !slices.Equal(l, []string{"abc", "acb", "cab"}) {
		t.Errorf("the orders are %q", l)
	}
	l = nil
	EveryOrder(t, &spelling{todo: []string{"a", " ", "b"}, visited: &l}, (*spelling).end)
	if !slices.Equal(l, []string{"ab ", "ba "}) {
		t.Errorf("the orders are %q", l)
	}
	l = nil
	EveryOrder(t, &spelling{todo: []string{"a", "a"}, visited: &l}, (*spelling).end)
	if !slices.Equal(l, []string{"aa"}) {
		t.Errorf("the orders that come to the same are %q", l)
	}
}

// The first order that is wrong is told, on its way or at its end, and none is gone on with.
func TestEveryOrderThatIsWrong(t *testing.T) {
	for wrong, ends := range map[string]int{"abc": 0, "ac": 1, "abc.": 1, "acb.": 2, "ca": 2} {
		var l []string
		var f faults
		EveryOrder(&f, &spelling{todo: []string{"ab", "c"}, wrong: wrong, visited: &l}, (*spelling).end)
		if f != 1 || len(l) != ends {
			t.Errorf("%s: %d faults, behind the orders %q", wrong, f, l)
		}
	}
}

// AnyOrder goes on till all is written, whoever is picked.
func TestAnyOrder(t *testing.T) {
	came := map[string]bool{}
	for seed := range 20 {
		var l []string
		pick := rand.New(rand.NewSource(int64(seed))).Intn
		AnyOrder(t, &spelling{todo: []string{"abcd", "  ", "efgh"}, visited: &l}, (*spelling).end, pick)
		if len(l) != 1 || len(l[0]) != 10 || l[0][8:] != "  " {
			t.Fatalf("the order is %q", l)
		}
		came[l[0]] = true
	}
	if len(came) < 10 {
		t.Errorf("of 20 orders %d are others", len(came))
	}
	for _, wrong := range []string{"a", "abc."} {
		var l []string
		var f faults
		AnyOrder(&f, &spelling{todo: []string{"abc"}, wrong: wrong, visited: &l}, (*spelling).end, func(int) int { return 0 })
		if f != 1 {
			t.Errorf("%s: %d faults, behind %q", wrong, f, l)
		}
	}
}
