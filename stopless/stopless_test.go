package stopless

import (
	"math"
	"testing"

	"flit/api"
	"flit/direct"
	"flit/edges"
	"flit/mem"
	"flit/watch"
)

// P15.1: a field's pair is behind a wide object's first two words, and behind the pairs of the fields ahead of it.
func TestPair(t *testing.T) {
	at := 104 + 2
	for field := range 8 {
		if got := Pair(104, field); got != at {
			t.Errorf("Pair of the field %d is %d, want %d", field, got, at)
		}
		at += 2
	}
	for _, n := range edges.Numbers() {
		if got := Pair(n, 0); got != n+2 {
			t.Errorf("Pair(%d, 0) is %d", n, got)
		}
		if got := Pair(0, n); got != n+n+2 {
			t.Errorf("Pair(0, %d) is %d", n, got)
		}
	}
}

// P15.1: of the address 0 it is done at once, with ErrNil and no access, whatever else is wrong; in a mode below ModePrep too.
func TestNil(t *testing.T) {
	for op := range 6 {
		for _, field := range []int{0, 1, -1, 7, 8, math.MaxInt, math.MinInt} {
			for _, mode := range append(lowModes(), highModes()...) {
				m := madeWide(t, api.InOriginal, ref(there))
				m.Store(0, header(api.TagWide, wide))
				r := api.Req{Op: op, Field: field, Exp: ref(there), New: ref(now)}
				watch.AtOnce(t, m, New(r, env(mode)), api.Out{Code: api.ErrNil})
			}
		}
	}
}

// P15.1: of a field below 0, and of one not below the Count, the first step is the last one, with ErrField and no hit, whatever the Op, the mode and the tag.
func TestNoField(t *testing.T) {
	for count := range 8 {
		for _, field := range []int{-1, -8, math.MinInt, count, count + 1, 8, math.MaxInt} {
			for tag := range 8 {
				for op := range 6 {
					for _, mode := range []int{0, 4, 5, 6, 7, 8, 9} {
						m := made(t, watch.Tagged(1, count, 1, tag, wide), ref(there))
						r := api.Req{Op: op, At: base, Field: field, Exp: ref(there), New: ref(now)}
						l := lookAt(t, m, r, mode)
						l.Last(watch.Load(base), false, api.Out{Code: api.ErrField})
					}
				}
			}
		}
	}
}

// P15.1: each field below the Count is one, of each tag: it stands behind the header, at r.At, or at the Link, if the object was moved; if it is on its way, where its own pair says, whatever those of others say.
func TestEachField(t *testing.T) {
	const at, to, by = 8, 16, 24
	for count := 1; count <= 7; count++ {
		for field := range count {
			for tag := range 8 {
				for status := range uint64(5) {
					for op := api.Read; op <= api.Swap; op++ {
						m := watch.Full(t, 48)
						place := at + 1 + field
						link := to
						switch {
						case tag == api.TagWide:
							link = by
							place = []int{place, by + 3 + 2*field, by + 3 + 2*field, to + 1 + field, to + 1 + field}[status]
							m.Store(by, watch.Wide(2, count, to))
							for k := range count {
								m.Store(by+2+2*k, (status+2)%5)
							}
							m.Store(by+2+2*field, status)
						case tag == api.TagMoved:
							place = to + 1 + field
						}
						m.Store(at, watch.Tagged(1, count, 0, tag, link))
						m.Store(place, watch.Field(scalar(77)))
						if tag == api.TagWide && status == api.Shut {
							m.Store(to+1+field, empty())
						}
						checkEachField(t, m, api.Req{Op: op, At: at, Field: field, Exp: scalar(77), New: scalar(78)}, place, to, by)
					}
				}
			}
		}
	}
}

// checkEachField does an access of a field that is at that place: it changes that alone, or, if the pair of it, in the wide object by, was shut, the pair, and its place in the copy to.
func checkEachField(t *testing.T, m *mem.Memory, r api.Req, place, to, by int) {
	t.Helper()
	before := watch.Words(m)
	shut := place >= by && before[place-1] == api.Shut
	x := New(r, env(6))
	watch.Run(t, x, m)
	want := api.Out{Yes: r.Op == api.Swap}
	switch {
	case r.Op == api.Read:
		want.V = scalar(77)
	case shut:
		before[place-1] = api.InFinal
		before[to+1+r.Field] = watch.Field(scalar(78))
	default:
		before[place] = watch.Field(scalar(78))
	}
	if x.Result() != want || m.Traps() != 0 {
		t.Errorf("%+v at %d: %v, %d traps", r, place, x.Result(), m.Traps())
	}
	watch.CheckWords(t, m, before)
}

// P15.1: in a mode below ModePrep it does what a Plain does, step by step, whatever the tag and the statuses: nothing is asked of these.
func TestBelowPrep(t *testing.T) {
	l := append(accesses(), api.Req{At: base}, api.Req{Op: 4, At: base, New: ref(there)})
	for _, mode := range lowModes() {
		for tag := range 8 {
			for _, v := range []api.Val{scalar(5), ref(0), ref(there), ref(old)} {
				made := made(t, header(tag, wide), v)
				made.Store(pairs, uint64(tag%4))
				for _, r := range l {
					for mark := range 2 {
						e := api.Env{Mode: mode, Mark: mark, Alpha: 5}
						watch.Alike(t, made.Clone(), New(r, e), direct.NewPlain(r, e))
					}
				}
			}
		}
	}
}

// P15.1: so a field that has gone is accessed where it was in the last mode below ModePrep; from ModePrep on where it is.
func TestFirstModeOfMoves(t *testing.T) {
	r := api.Req{Op: api.Write, At: base, New: scalar(7)}
	for status := range uint64(4) {
		l := lookOnWay(t, madeWide(t, status, scalar(5)), r, api.ModeSweep)
		l.Stores(field, scalar(7))
		l = lookOnWay(t, madeWide(t, status, scalar(5)), r, api.ModePrep)
		l.goesOn(r, api.ModePrep)
	}
	l := lookOnWay(t, madeMoved(t, scalar(5)), r, api.ModeSweep)
	l.Stores(field, scalar(7))
	l = lookOnWay(t, madeMoved(t, scalar(5)), r, api.ModePrep)
	l.Stores(final, scalar(7))
}

// P15.1: of an object that was moved, the header, then the steps of a Direct at its Link, with its hits and its Out: with Canon, with Fix just in ModeFix, and never with Shade.
func TestMoved(t *testing.T) {
	for _, mode := range highModes() {
		for _, v := range values() {
			for _, r := range accesses() {
				l := lookOnWay(t, madeMoved(t, v), r, mode)
				l.Direct(copied, r, fixes(mode))
			}
		}
	}
}

// P15.1: of one with another tag but TagWide, likewise at r.At.
func TestOtherTags(t *testing.T) {
	for _, tag := range []int{api.TagNone, api.TagTagged, api.TagClaimed, api.TagStays, 6, 7} {
		for _, mode := range []int{5, 6, 7, 8, 9} {
			for _, v := range values() {
				for _, r := range accesses() {
					l := lookOnWay(t, made(t, header(tag, wide), v), r, mode)
					l.Direct(base, r, fixes(mode))
				}
			}
		}
	}
}

// P15.1: a Read of a field that is in the original: the header, the status, and the field, which is a hit; it tells what the field has, also in ModeFix.
func TestReadInOriginal(t *testing.T) {
	for _, mode := range highModes() {
		for _, v := range values() {
			l := lookOnWay(t, madeWide(t, api.InOriginal, v), api.Req{Op: api.Read, At: base, New: ref(there)}, mode)
			l.status()
			l.Last(watch.Load(field), true, api.Out{V: v})
		}
	}
}

// P15.1: a Swap of it that expects something else is done with that, also if both are one object's references; nothing is frozen.
func TestSwapInOriginalThatExpectsSomethingElse(t *testing.T) {
	for _, mode := range highModes() {
		for _, v := range values() {
			for _, r := range swaps(ref(there)) {
				if r.Exp == v {
					continue
				}
				l := lookOnWay(t, madeWide(t, api.InOriginal, v), r, mode)
				l.status()
				l.Last(watch.Load(field), true, api.Out{})
			}
		}
	}
}

// P15.1: a Write, and a Swap that expects what the field has, below ModeClose: the header, the status, the field, and the CAS that lays New down there; the last two are hits. Pair and copy are left as they are.
func TestWriteInOriginal(t *testing.T) {
	for _, mode := range openModes() {
		for _, v := range values() {
			for _, w := range values() {
				for _, r := range writing(v, w) {
					l := lookOnWay(t, madeWide(t, api.InOriginal, v), r, mode)
					l.status()
					l.Step(watch.Load(field), true)
					l.Want[field] = watch.Field(w)
					l.Last(watch.CAS(field, true), true, api.Out{Yes: r.Op == api.Swap})
				}
			}
		}
	}
}

// P15.1: all bits of the field are held against what was found; if one is another one by then that step is no hit, and the field is read once more, not the status: it goes on by what the field has then.
func TestWriteInOriginalThatChanges(t *testing.T) {
	for _, mode := range highModes() {
		for bit := range 64 {
			for _, r := range writing(scalar(5), scalar(7)) {
				l := lookOnWay(t, madeWide(t, api.InOriginal, scalar(5)), r, mode)
				l.status()
				l.original()
				l.Stored(field, watch.Field(scalar(5))^1<<bit)
				l.Fails(field)
				l.goesThere(r, mode)
			}
		}
	}
}

// P15.1: that may be so again and again, and end with each thing that a field may have, frozen or not.
func TestWriteInOriginalThatChangesAgain(t *testing.T) {
	for _, mode := range highModes() {
		for turns := 1; turns < 5; turns++ {
			for _, v := range values() {
				for _, bit := range []uint64{0, frozen} {
					for _, r := range writing(scalar(5), ref(there)) {
						l := lookOnWay(t, madeWide(t, api.InOriginal, scalar(5)), r, mode)
						l.status()
						for range turns {
							l.Stored(field, watch.Field(scalar(5)))
							l.original()
							l.Stored(field, watch.Field(v)^1<<60)
							l.Fails(field)
						}
						l.Stored(field, watch.Field(v)|bit)
						l.goesThere(r, mode)
					}
				}
			}
		}
	}
}

// P15.1: a field of the original that is frozen is written no more there, nor told: each access opens the pair with what the field has, and asks the status anew. It is a hit, but not the last one.
func TestFrozen(t *testing.T) {
	for _, mode := range highModes() {
		for _, v := range values() {
			for _, r := range accesses() {
				l := lookOnWay(t, madeFrozen(t, v), r, mode)
				l.status()
				l.Step(watch.Load(field), true)
				l.Want[pairs], l.Want[pairs+1] = api.InWide, watch.Field(v)
				l.Step(watch.CAS2(pairs, true), false)
				l.Step(watch.Load(pairs), false)
				l.goesOpen(r, mode)
			}
		}
	}
}

// P15.1: if another one has opened it by then, and others have written since, that is left as it is, whatever the status has come to, and it goes on by that.
func TestFrozenThatIsOpenedByAnother(t *testing.T) {
	for _, mode := range highModes() {
		for status := uint64(1); status <= 4; status++ {
			for _, v := range values() {
				for _, r := range []api.Req{
					{Op: api.Read, At: base},
					{Op: api.Write, At: base, New: ref(there)},
					{Op: api.Swap, At: base, Exp: scalar(5), New: ref(there)},
					{Op: api.Swap, At: base, Exp: ref(old), New: ref(there)},
				} {
					l := lookOnWay(t, madeFrozen(t, scalar(5)), r, mode)
					l.status()
					l.original()
					l.Stored(pairs, status)
					l.Stored(pairs+1, watch.Field(v))
					if status >= api.InFinal {
						l.Stored(final, watch.Field(v))
					}
					l.changed()
					l.goesOn(r, mode)
				}
			}
		}
	}
}

// P15.1: both words of the pair are held against nought: who finds another one there asks the status, and the field, once more.
func TestFrozenOfAPairThatIsNotNought(t *testing.T) {
	for bit := range 64 {
		r := api.Req{Op: api.Read, At: base}
		l := lookOnWay(t, madeFrozen(t, scalar(5)), r, api.ModeCopy)
		l.status()
		for range 3 {
			l.Stored(pairs+1, 1<<bit)
			l.original()
			l.changed()
			l.status()
		}
		l.Stored(pairs+1, 0)
		l.original()
		l.opens()
		l.goesOn(r, api.ModeCopy)
	}
}

// P15.1: a Read of a field that is in its pair, open or shut: the header, the status, the pair's value, which is a hit, and the status once more; it tells that value, also in ModeFix. Nothing is moved on. So with a Swap that expects something else, also if both are one object's references.
func TestReadInPair(t *testing.T) {
	for _, status := range []uint64{api.InWide, api.Shut} {
		for _, mode := range highModes() {
			for _, v := range values() {
				l := lookOnWay(t, madeWide(t, status, v), api.Req{Op: api.Read, At: base, New: ref(there)}, mode)
				l.Step(watch.Load(pairs), false)
				l.Step(watch.Load(pairs+1), true)
				l.Last(watch.Load(pairs), false, api.Out{V: v})
				for _, r := range swaps(ref(there)) {
					if r.Exp == v {
						continue
					}
					l := lookOnWay(t, madeWide(t, status, v), r, mode)
					l.Step(watch.Load(pairs), false)
					l.Step(watch.Load(pairs+1), true)
					l.Last(watch.Load(pairs), false, api.Out{})
				}
			}
		}
	}
}

// P15.1: if the status is another one by then, whichever that is, it goes on by that, without asking for it once more; what was found is told only if the status is the same.
func TestReadInPairThatIsMovedOn(t *testing.T) {
	statuses := []uint64{0, 1, 2, 3, 4, 5, 1 << 32, 1 << 63, math.MaxUint64}
	for _, status := range []uint64{api.InWide, api.Shut} {
		for _, then := range statuses {
			for _, mode := range highModes() {
				for _, r := range []api.Req{
					{Op: api.Read, At: base},
					{Op: api.Swap, At: base, Exp: scalar(6), New: ref(there)},
					{Op: api.Swap, At: base, Exp: ref(old), New: ref(there)},
				} {
					for _, v := range []api.Val{scalar(5), scalar(6), ref(old), ref(elder)} {
						l := lookOnWay(t, madeWide(t, status, scalar(5)), r, mode)
						l.status()
						l.value()
						l.Stored(pairs, then)
						at := pairs + 1
						switch {
						case then == api.InOriginal: // no pair goes back to that, so that it would not be nought
							l.Stored(pairs+1, 0)
							at = field
						case then >= api.InFinal:
							at = final
						}
						l.Stored(at, watch.Field(v))
						if then == status {
							l.tells(pairs, false, r, scalar(5))
							continue
						}
						l.status()
						l.goesBy(r, mode)
					}
				}
			}
		}
	}
}

// P15.1: so a Read may go from status to status, and is told where the field ends.
func TestReadThatGoesAllTheWay(t *testing.T) {
	for _, mode := range highModes() {
		l := lookOnWay(t, madeFrozen(t, scalar(5)), api.Req{Op: api.Read, At: base}, mode)
		l.status()
		l.original()
		l.opens()
		l.status()
		l.value()
		l.Stored(pairs, api.Shut)
		l.Stored(pairs+1, watch.Field(scalar(6)))
		l.status()
		l.value()
		l.Stored(pairs, api.InFinal)
		l.Stored(final, watch.Field(ref(old)))
		l.status()
		l.link()
		if !fixes(mode) {
			l.Last(watch.Load(final), true, api.Out{V: ref(old)})
			continue
		}
		l.Step(watch.Load(final), true)
		l.Last(watch.Load(old), false, api.Out{V: ref(now)})
	}
}

// P15.1: a Write, and a Swap that expects what the field has, of an open pair, below ModeClose: the header, the status, the value, and the CAS2 that lays New down there, with the status as it was; the last two are hits. Original and copy are left as they are.
func TestWriteInPair(t *testing.T) {
	for _, mode := range openModes() {
		for _, v := range values() {
			for _, w := range values() {
				for _, r := range writing(v, w) {
					l := lookOnWay(t, madeWide(t, api.InWide, v), r, mode)
					l.Step(watch.Load(pairs), false)
					l.Step(watch.Load(pairs+1), true)
					l.Want[pairs+1] = watch.Field(w)
					l.Last(watch.CAS2(pairs, true), true, api.Out{Yes: r.Op == api.Swap})
				}
			}
		}
	}
}

// P15.1: all bits of both words are held against what was found; if one is another one by then that step is no hit, and the status is asked once more: it goes on by that. Likewise with the CAS2 that shuts the pair.
func TestWriteInPairThatChanges(t *testing.T) {
	for _, mode := range highModes() {
		for bit := range 64 {
			for word := range 2 {
				for _, r := range writing(scalar(5), scalar(7)) {
					m := madeWide(t, api.InWide, scalar(5))
					m.Store(field, watch.Field(scalar(5)))
					m.Store(final, watch.Field(scalar(5)))
					l := lookOnWay(t, m, r, mode)
					l.status()
					l.value()
					l.Stored(pairs+word, l.Want[pairs+word]^1<<bit)
					l.changed()
					if l.Want[pairs] == api.InOriginal { // no pair goes back to that, so that it would not be nought
						l.Stored(pairs+1, 0)
					}
					l.goesOn(r, mode)
				}
			}
		}
	}
}

// P15.1: that may be so again and again, and end with each thing that a field may have, in each place.
func TestWriteInPairThatChangesAgain(t *testing.T) {
	for _, mode := range highModes() {
		for turns := 1; turns < 5; turns++ {
			for status := uint64(1); status <= 3; status++ {
				for _, v := range values() {
					for _, r := range writing(scalar(5), ref(there)) {
						l := lookOnWay(t, madeWide(t, api.InWide, scalar(5)), r, mode)
						for range turns {
							l.Stored(pairs+1, watch.Field(scalar(5)))
							l.status()
							l.value()
							l.Stored(pairs+1, watch.Field(scalar(6)))
							l.changed()
						}
						l.Stored(pairs, status)
						l.Stored(pairs+1, watch.Field(v))
						if status == api.InFinal {
							l.Stored(final, watch.Field(v))
						}
						l.goesOn(r, mode)
					}
				}
			}
		}
	}
}

// P15.1: of a pair that is shut they lay what it has into the final copy, if that is empty still, and say so; then they write there: the header, the status, the value, which is a hit, the wide object's header, the CAS, the CAS2, the status, the wide object's header, and the steps of a Direct.
func TestWriteOfShut(t *testing.T) {
	for _, mode := range highModes() {
		for _, v := range values() {
			for _, r := range writing(v, ref(there)) {
				l := lookOnWay(t, madeWide(t, api.Shut, v), r, mode)
				l.Step(watch.Load(pairs), false)
				l.Step(watch.Load(pairs+1), true)
				l.Step(watch.Load(wide), false)
				l.Want[final] = watch.Field(v)
				l.Step(watch.CAS(final, true), false)
				l.Want[pairs] = api.InFinal
				l.Step(watch.CAS2(pairs, true), false)
				l.Step(watch.Load(pairs), false)
				l.Step(watch.Load(wide), false)
				l.Direct(copied, r, fixes(mode))
			}
		}
	}
}

// P15.1: what others laid down in the final copy meanwhile is left as it is: all bits of the word of {Empty, 0} are held against it.
func TestShutThatIsFilledByAnother(t *testing.T) {
	for _, mode := range highModes() {
		for bit := range 64 {
			for _, r := range writing(scalar(5), scalar(7)) {
				l := lookOnWay(t, madeWide(t, api.Shut, scalar(5)), r, mode)
				l.status()
				l.value()
				l.link()
				l.Stored(final, empty()^1<<bit)
				l.Fails(final)
				l.ends()
				l.goesOn(r, mode)
			}
		}
	}
}

// P15.1: so it is if others have gone all the way, and have written there: ahead of each of these steps.
func TestShutThatIsEndedByAnother(t *testing.T) {
	for _, mode := range highModes() {
		for k := range 4 {
			for _, r := range writing(scalar(5), scalar(7)) {
				l := lookOnWay(t, madeWide(t, api.Shut, scalar(5)), r, mode)
				l.status()
				others := func(ahead int) {
					if k == ahead {
						l.Stored(pairs, api.InFinal)
						l.Stored(final, watch.Field(scalar(6)))
					}
				}
				others(0)
				l.value()
				others(1)
				l.link()
				others(2)
				if k <= 2 {
					l.Fails(final)
				} else {
					l.fills()
				}
				others(3)
				l.changed()
				l.goesOn(r, mode)
			}
		}
	}
}

// P15.1: all bits of both words of the pair are held against what was found, by the CAS2 that ends it, too; behind it the status is asked in either case.
func TestShutPairThatChanges(t *testing.T) {
	for bit := range 64 {
		for word := range 2 {
			r := api.Req{Op: api.Write, At: base, New: scalar(7)}
			l := lookOnWay(t, madeWide(t, api.Shut, scalar(5)), r, api.ModeCopy)
			l.status()
			l.value()
			l.link()
			l.fills()
			l.Stored(pairs+word, l.Want[pairs+word]^1<<bit)
			l.changed()
			l.Stored(pairs, api.InFinal)
			l.goesOn(r, api.ModeCopy)
		}
	}
}

// P15.1: where the final copy stands is asked by the Link of the wide object's header, as it is at that step, each time anew.
func TestFinalCopyIsAskedAnew(t *testing.T) {
	r := api.Req{Op: api.Write, At: base, New: scalar(7)}
	l := lookOnWay(t, madeWide(t, api.Shut, scalar(5)), r, api.ModeCopy)
	l.status()
	l.value()
	l.Stored(wide, watch.Wide(1, 3, there))
	l.Stored(there+1, empty())
	l.link()
	l.Stored(wide, watch.Wide(1, 3, now))
	l.Want[there+1] = watch.Field(scalar(5))
	l.Step(watch.CAS(there+1, true), false)
	l.ends()
	l.status()
	l.Stored(wide, uint64(copied)<<12|1<<40) // its Link alone is asked
	l.link()
	l.Stored(wide, 0)
	l.Stores(final, scalar(7))

	l = lookOnWay(t, madeWide(t, api.Shut, scalar(5)), r, api.ModeCopy)
	l.status()
	l.value()
	l.link()
	l.fills()
	l.Stored(pairs+1, watch.Field(scalar(6)))
	l.changed()
	l.status()
	l.value()
	l.Stored(wide, watch.Wide(1, 3, there))
	l.Stored(there+1, empty())
	l.link()
	l.Want[there+1] = watch.Field(scalar(6))
	l.Step(watch.CAS(there+1, true), false)
	l.ends()
	l.status()
	l.link()
	l.Stores(there+1, scalar(7))
}

// P15.1: of a field that is in the final copy: the header, the status, the wide object's header, and the steps of a Direct, with its hits and its Out; so with each status beyond that.
func TestInFinal(t *testing.T) {
	for _, mode := range highModes() {
		for _, v := range values() {
			for k, r := range accesses() {
				status := []uint64{api.InFinal, 4, api.InFinal, 5, api.InFinal, 1 << 32, math.MaxUint64}[k%7]
				l := lookOnWay(t, madeWide(t, status, v), r, mode)
				l.Step(watch.Load(pairs), false)
				l.Step(watch.Load(wide), false)
				l.Direct(copied, r, fixes(mode))
			}
		}
	}
}

// P15.1: from ModeClose on a Write, and a Swap that expects what the field has, moves the field on to its end ahead of that, from wherever it is: it is frozen, its pair opened and shut, laid down in the final copy, and written there.
func TestWriteWhenAllCloses(t *testing.T) {
	for _, mode := range closingModes() {
		for _, v := range values() {
			for _, r := range writing(v, ref(there)) {
				l := lookOnWay(t, madeWide(t, api.InOriginal, v), r, mode)
				l.status()
				l.original()
				l.freezes()
				l.original()
				l.opens()
				l.status()
				l.value()
				l.shuts()
				l.status()
				l.value()
				l.link()
				l.fills()
				l.ends()
				l.status()
				l.link()
				l.Direct(copied, r, fixes(mode))
			}
		}
	}
}

// P15.1: if others write between these steps, it goes on by what they wrote: a Swap that finds something else then is done with that, wherever the field is by then.
func TestSwapWhenAllClosesThatFindsSomethingElse(t *testing.T) {
	r := api.Req{Op: api.Swap, At: base, Exp: scalar(5), New: ref(there)}
	for _, mode := range closingModes() {
		l := lookOnWay(t, madeWide(t, api.InOriginal, scalar(5)), r, mode)
		l.status()
		l.original()
		l.Stored(field, watch.Field(scalar(6)))
		l.Fails(field)
		l.tells(field, true, r, scalar(6))

		l = lookOnWay(t, madeWide(t, api.InOriginal, scalar(5)), r, mode)
		l.status()
		l.original()
		l.freezes()
		l.original()
		l.Stored(pairs, api.InWide)
		l.Stored(pairs+1, watch.Field(scalar(6)))
		l.changed()
		l.status()
		l.value()
		l.tells(pairs, false, r, scalar(6))

		l = lookOnWay(t, madeWide(t, api.InWide, scalar(5)), r, mode)
		l.status()
		l.value()
		l.Stored(pairs, api.Shut)
		l.Stored(pairs+1, watch.Field(scalar(6)))
		l.changed()
		l.status()
		l.value()
		l.tells(pairs, false, r, scalar(6))

		l = lookOnWay(t, madeWide(t, api.Shut, scalar(5)), r, mode)
		l.status()
		l.value()
		l.link()
		l.Stored(final, watch.Field(scalar(6)))
		l.Stored(pairs, api.InFinal)
		l.Fails(final)
		l.changed()
		l.status()
		l.link()
		l.Last(watch.Load(final), true, api.Out{})
	}
}

// P15.1: the header is asked once: neither its tag, nor its Link, nor its Count is asked behind the step 1.
func TestHeaderIsAskedOnce(t *testing.T) {
	for tag := range 8 {
		for count := range 4 {
			for status := range uint64(4) {
				for _, mode := range []int{6, 7} {
					for _, r := range writing(scalar(5), scalar(7)) {
						l := lookOnWay(t, madeWide(t, status, scalar(5)), r, mode)
						l.Stored(base, watch.Tagged(0, count, 1, tag, there))
						l.goesOn(r, mode)
					}
				}
			}
		}
		for first := range 8 {
			if first == api.TagWide {
				continue
			}
			r := api.Req{Op: api.Swap, At: base, Exp: scalar(5), New: scalar(7)}
			m := made(t, header(first, copied), scalar(5))
			m.Store(final, watch.Field(scalar(5)))
			l := lookOnWay(t, m, r, api.ModeCopy)
			at := l.Home(base)
			l.Stored(base, watch.Tagged(0, 0, 1, tag, wide))
			l.Direct(at, r, false)
		}
	}
}

// P15.1: of the header the Count, the Tag and the Link alone are asked.
func TestStateIsNotAsked(t *testing.T) {
	for bits := range uint64(1 << 12) {
		if watch.Count(bits) == 0 {
			continue
		}
		for _, rest := range []uint64{0, 1 << 24, 1 << 63} {
			r := api.Req{Op: api.Swap, At: base, Exp: scalar(5), New: scalar(7)}
			link := uint64(copied)
			if watch.Tag(bits) == api.TagWide {
				link = wide
			}
			m := made(t, bits+link<<12+rest, scalar(5))
			if watch.Tag(bits) == api.TagMoved {
				m.Store(final, watch.Field(scalar(5)))
			}
			l := lookOnWay(t, m, r, api.ModeCopy)
			switch watch.Tag(bits) {
			case api.TagMoved:
				l.Direct(copied, r, false)
			case api.TagWide:
				l.goesOn(r, api.ModeCopy)
			default:
				l.Direct(base, r, false)
			}
		}
	}
}

// P15.1: what a field has is what its word says at the step that looks at it: not ahead of it, nor behind it. A value in a pair, or in the final copy, may say that it is frozen: that is nothing there.
func TestFieldAtItsStep(t *testing.T) {
	r := api.Req{Op: api.Read, At: base}
	l := lookOnWay(t, madeWide(t, api.InOriginal, scalar(5)), r, api.ModeCopy)
	l.status()
	l.Stored(pairs, api.InWide) // the status that counts was found ahead of that
	l.Stored(field, watch.Field(scalar(6)))
	l.Last(watch.Load(field), true, api.Out{V: scalar(6)})
	l.Stored(field, watch.Field(scalar(7)))
	l.Told(true, api.Out{V: scalar(6)})

	for _, status := range []uint64{api.InWide, api.Shut} {
		l = lookOnWay(t, madeWide(t, status, scalar(5)), r, api.ModeCopy)
		l.status()
		l.Stored(pairs+1, watch.Field(scalar(6))|frozen)
		l.value()
		l.Stored(pairs+1, watch.Field(scalar(7)))
		l.Last(watch.Load(pairs), false, api.Out{V: scalar(6)})
		l.Stored(pairs, api.InFinal)
		l.Told(false, api.Out{V: scalar(6)})
	}
	l = lookOnWay(t, madeWide(t, api.InFinal, scalar(5)), r, api.ModeCopy)
	l.status()
	l.link()
	l.Stored(final, watch.Field(scalar(6))|frozen)
	l.Last(watch.Load(final), true, api.Out{V: scalar(6)})
}

// P15.1: a value in a pair that says that it is frozen is laid down, and held against the pair, as it is.
func TestPairThatSaysThatItIsFrozen(t *testing.T) {
	r := api.Req{Op: api.Swap, At: base, Exp: scalar(5), New: scalar(7)}
	for _, mode := range highModes() {
		for _, status := range []uint64{api.InWide, api.Shut} {
			m := madeWide(t, status, scalar(5))
			m.Store(pairs+1, watch.Field(scalar(5))|frozen)
			l := lookOnWay(t, m, r, mode)
			l.goesOn(r, mode)
		}
	}
}

// P15.1: it is asked of the three Ops alone. Of another one each step is one access still, it ends, and nothing is written.
func TestOtherOps(t *testing.T) {
	for _, op := range append(edges.Numbers(), 0, 4) {
		if op >= api.Read && op <= api.Swap {
			continue
		}
		for _, mode := range []int{4, 5, 7, 8} {
			for _, tag := range []int{api.TagNone, api.TagMoved, api.TagWide} {
				for status := range uint64(4) {
					m := made(t, header(tag, wide), scalar(5))
					m.Store(pairs, status)
					before, count := watch.Words(m), m.Count()
					x := New(api.Req{Op: op, At: base, Exp: scalar(5), New: ref(there)}, env(mode))
					n := watch.Run(t, x, m)
					if m.Count() != count+n || m.Traps() != 0 || x.Result() != (api.Out{}) {
						t.Errorf("Op %d, tag %d: %d steps, %d accesses, %v", op, tag, n, m.Count()-count, x.Result())
					}
					watch.CheckWords(t, m, before)
				}
			}
		}
	}
}

// P15.1, P15.2: alone, in a mode in which nothing is shaded, each access is done in a few steps, each of them one access, none a trap; it has the result that it must have, and what it wrote is where the field is. From ModeClose on that is the final copy.
func TestAlone(t *testing.T) {
	for _, mode := range []int{0, 4, 5, 6, 7, 8, 9} {
		for tag := range 8 {
			for status := range uint64(5) { // the last one: frozen, and no pair is open yet
				for _, v := range values() {
					made := madeWide(t, status%4, v)
					if status == 4 {
						made = madeFrozen(t, v)
					}
					made.Store(base, header(tag, wide))
					if tag == api.TagMoved {
						made.Store(base, header(tag, copied))
						made.Store(final, watch.Field(v))
					}
					for _, r := range accesses() {
						m := made.Clone()
						count := m.Count()
						x := New(r, env(mode))
						n := watch.Run(t, x, m)
						if n < 2 || n > 20 || m.Count() != count+n || m.Traps() != 0 {
							t.Errorf("%+v, tag %d, mode %d: %d steps, %d accesses, %d traps", r, tag, mode, n, m.Count()-count, m.Traps())
						}
						has := watch.Value(watch.Word(made, place(made, mode)))
						checkAlone(t, m, has, r, mode, x.Result())
					}
				}
			}
		}
	}
}

// place is where the first field of base stands, for who works in that mode.
func place(m *mem.Memory, mode int) int {
	tag := watch.Tag(watch.Word(m, base))
	switch {
	case mode < api.ModePrep || tag != api.TagMoved && tag != api.TagWide:
		return field
	case tag == api.TagMoved:
		return final
	}
	return []int{field, pairs + 1, pairs + 1, final}[watch.Word(m, pairs)]
}

// checkAlone asks what came of an access of a field that had v.
func checkAlone(t *testing.T, m *mem.Memory, v api.Val, r api.Req, mode int, got api.Out) {
	t.Helper()
	home := func(v api.Val) api.Val {
		if watch.Refers(v) {
			v.N = watch.Home(watch.Word(m, v.N), v.N)
		}
		return v
	}
	at := place(m, mode)
	has := watch.Value(watch.Word(m, at))
	moves := mode >= api.ModePrep
	if watch.Tag(watch.Word(m, base)) == api.TagWide && moves {
		if at == field && watch.Word(m, field)&frozen != 0 {
			t.Errorf("%+v, mode %d: the field is frozen, and no pair is open", r, mode)
		}
		if closes(mode) && has == r.New && has != v && at != final {
			t.Errorf("%+v, mode %d: it is written at %d", r, mode, at)
		}
	}
	canon := moves && (at == final || watch.Tag(watch.Word(m, base)) != api.TagWide)
	want, out := v, api.Out{}
	switch {
	case r.Op == api.Read:
		out.V = v
		if fixes(mode) && canon {
			out.V = home(v)
		}
	case r.Op == api.Write:
		want = r.New
	case v == r.Exp || canon && home(v) == home(r.Exp):
		want, out.Yes = r.New, true
	}
	if got != out || has != want {
		t.Errorf("%v: %+v, mode %d: Result is %v, want %v; the field has %v, want %v", v, r, mode, got, out, has, want)
	}
}

// P15.1: the chapter's examples.
func TestExamples(t *testing.T) {
	example := func() *mem.Memory {
		m, _ := mem.New(160)
		m.Store(96, watch.Tagged(0, 1, 0, api.TagWide, 104))
		m.Store(97, watch.Field(scalar(5)))
		m.Store(104, watch.Wide(1, 1, 112))
		return m
	}
	m := example()
	x := New(api.Req{Op: api.Read, At: 96}, env(6))
	if n := watch.Run(t, x, m); n != 3 || x.Result() != (api.Out{V: scalar(5)}) {
		t.Errorf("a Read: %d steps, %v", n, x.Result())
	}
	m = example()
	x = New(api.Req{Op: api.Write, At: 96, New: scalar(7)}, env(6))
	if n := watch.Run(t, x, m); n != 4 || x.Result() != (api.Out{}) {
		t.Errorf("a Write: %d steps, %v", n, x.Result())
	}
	watch.CheckWord(t, m, 97, watch.Field(scalar(7)))
	watch.CheckWord(t, m, 106, api.InOriginal)
}

// R6: a new Access does no access, and keeps no more of what it is given than its value.
func TestNewDoesNothing(t *testing.T) {
	for _, mode := range []int{0, 6} {
		m := made(t, header(api.TagNone, 0), scalar(5))
		count := m.Count()
		r, e := api.Req{Op: api.Read, At: base}, env(mode)
		x := New(r, e)
		r.Op, r.Field, e.Mode = api.Write, 2, api.ModeFix
		if m.Count() != count {
			t.Error("a new Access does an access")
		}
		l := look{watch.LookAt(t, m, x)}
		l.Step(watch.Load(base), false)
		l.Last(watch.Load(field), true, api.Out{V: scalar(5)})
	}
}

// R1: of an address that the memory does not have the header has no fields.
func TestWhatIsNotThere(t *testing.T) {
	for _, n := range edges.Numbers() {
		if n >= 0 && n < size {
			continue
		}
		for _, mode := range []int{0, 6} {
			m := madeWide(t, api.InOriginal, scalar(5))
			before, count := watch.Words(m), m.Count()
			x := New(api.Req{Op: api.Write, At: n, New: scalar(7)}, env(mode))
			if !x.Step(m) || x.Hit() || x.Result() != (api.Out{Code: api.ErrField}) || m.Count() != count+1 {
				t.Errorf("%d: %v, %d accesses", n, x.Result(), m.Count()-count)
			}
			watch.CheckDone(t, x, m)
			watch.CheckWords(t, m, before)
		}
	}
}

// R1: of a field, a wide object, or a final copy that the memory does not have, and of a pair that is none, each step is still one access, and no word changes.
func TestFieldsThatAreNotThere(t *testing.T) {
	for _, x := range []struct{ tag, link int }{
		{api.TagNone, 0}, {api.TagMoved, 4095},
		{api.TagWide, 4095}, {api.TagWide, size - 1}, {api.TagWide, size - 2}, {api.TagWide, size - 3}, {api.TagWide, wide + 1},
	} {
		for status := range uint64(5) {
			for op := api.Read; op <= api.Swap; op++ {
				for _, mode := range []int{6, 7} {
					m := watch.Full(t, size)
					m.Store(size-1, watch.Tagged(0, 3, 0, x.tag, x.link))
					m.Store(wide+3, status)
					before, done := watch.Words(m), false
					a := New(api.Req{Op: op, At: size - 1, Exp: scalar(0), New: scalar(7)}, env(mode))
					for n := 1; n <= 40 && !done; n++ {
						count := m.Count()
						if done = a.Step(m); m.Count() != count+1 {
							t.Errorf("Op %d, %+v: the step %d does %d accesses", op, x, n, m.Count()-count)
						}
					}
					watch.CheckWords(t, m, before)
				}
			}
		}
	}
}

// R1: an Access that nobody made is done, with nothing.
func TestMadeByNobody(t *testing.T) {
	watch.AtOnce(t, madeWide(t, api.InOriginal, ref(there)), &Access{}, api.Out{})
}

// copyOf is a copy of an Access.
func copyOf(x watch.Accessor) watch.Accessor {
	y := *x.(*Access)
	return &y
}

// A copy of an Access goes its own way, at each step of it: also if the Access has done the same steps already.
func TestCopiesGoTheirOwnWay(t *testing.T) {
	for _, tag := range []int{api.TagNone, api.TagMoved, api.TagWide} {
		for status := range uint64(5) {
			for op := api.Read; op <= api.Swap; op++ {
				for _, mode := range []int{0, 2, 6, 7, 8} {
					made := madeWide(t, status%4, ref(old))
					if status == 4 {
						made = madeFrozen(t, ref(old))
					}
					if tag != api.TagWide {
						made = madeMoved(t, ref(old))
						made.Store(base, header(tag, copied))
						made.Store(field, watch.Field(ref(old)))
					}
					r := api.Req{Op: op, At: base, Exp: ref(old), New: ref(there)}
					begin := func() watch.Accessor { return New(r, env(mode)) }
					watch.CheckCopies(t, made, begin, copyOf)
				}
			}
		}
	}
}
