package gjson_test

import (
	"bytes"
	"slices"
	"strings"
	"sync"
	"testing"

	"merestone/api"
	"merestone/gjson"
)

// texts are such as are read and such as are refused, by each error.
func texts() []string {
	list := []string{example, textOf(crossroads()), textOf(gate()), show(written()), "", "{}", "null", strings.Repeat(" ", api.MaxText+1)}
	for _, kind := range mishaps() {
		for _, m := range kind {
			list = append(list, happened(m))
		}
	}
	return list
}

// What is handed in stays as it is, its spare room too, and what stands there is no part of the text.
func TestTextsStayAsTheyAre(t *testing.T) {
	for _, text := range texts() {
		want, fault := gjson.Decode([]byte(text))
		for _, spare := range []string{"", " ", "x", "}", "]]}}", "\x00" + text} {
			room := []byte(text + spare)
			p, e := gjson.Decode(room[:len(text)])
			if string(room) != text+spare {
				t.Errorf("Decode made %s of %s", brief(string(room)), brief(text+spare))
			}
			if !equal(p, want) || e != fault {
				t.Errorf("with %s behind it %s is %s, %d", brief(spare), brief(text), brief(p), e)
			}
		}
	}
}

// A whole that is the spare room's alone is none.
func TestSpareRoomIsNotRead(t *testing.T) {
	for length := range len(example) {
		if p, e := gjson.Decode([]byte(example)[:length]); e != api.ErrText || len(p.Outer)+len(p.Parcels) != 0 {
			t.Errorf("the first %d bytes: %s, %d", length, brief(p), e)
		}
	}
}

// roomy is the same plan with something in the spare room of all its lists.
func roomy(p api.Plan) api.Plan {
	other := lay(append(slices.Clone(p.Outer), at(77, -77), at(1, 2))[:len(p.Outer)])
	for _, one := range p.Parcels {
		one.Ring = append(slices.Clone(one.Ring), at(77, -77), at(1, 2))[:len(one.Ring)]
		other.Parcels = append(other.Parcels, one)
	}
	other.Parcels = append(other.Parcels, parcel(9, "x", 1, 1))[:len(p.Parcels)]
	return other
}

// everything is a copy of a plan with all that is in the spare room of its lists.
func everything(p api.Plan) api.Plan {
	other := lay(slices.Clone(p.Outer[:cap(p.Outer)]), slices.Clone(p.Parcels[:cap(p.Parcels)])...)
	for i, one := range other.Parcels {
		other.Parcels[i].Ring = slices.Clone(one.Ring[:cap(one.Ring)])
	}
	return other
}

// Sound or not, in any order.
func TestPlansStayAsTheyAre(t *testing.T) {
	plans := []api.Plan{{}, lay(square().Outer), lay(nil, square().Parcels...), lay(of(4, 0, 4, 4, 0, 4, 0, 0), square().Parcels...)}
	for _, p := range all() {
		turned := copied(p)
		slices.Reverse(turned.Parcels)
		slices.Reverse(turned.Outer)
		plans = append(plans, p, turned)
	}
	for _, p := range plans {
		handed := roomy(p)
		before := everything(handed)
		b, e := gjson.Encode(handed)
		if !equal(everything(handed), before) {
			t.Errorf("Encode made %s of %s", brief(everything(handed)), brief(before))
		}
		if other, fault := gjson.Encode(copied(p)); !bytes.Equal(b, other) || e != fault {
			t.Errorf("with spare room %s is %s, %d", brief(p), brief(string(b)), e)
		}
	}
}

// spoilRing writes over a ring and its spare room.
func spoilRing(r api.Ring) {
	room := r[:cap(r)]
	for i := range room {
		room[i] = at(-99, 99)
	}
}

func spoilParcels(list []api.Parcel) {
	room := list[:cap(list)]
	for i := range room {
		room[i] = parcel(-9, "spoilt", 9, 9)
	}
}

// Each list of an answer is written over alone: it is neither in another answer nor another list of its own.
func TestPlansAreNewMemory(t *testing.T) {
	for _, want := range []api.Plan{square(), halves(), crossroads(), gate(), slab(16, 4)} {
		text := textOf(want)
		for which := range len(want.Parcels) + 2 {
			p, _ := gjson.Decode([]byte(text))
			other, _ := gjson.Decode([]byte(text))
			left := copied(p)
			switch {
			case which < len(want.Parcels):
				spoilRing(p.Parcels[which].Ring)
				spoilRing(left.Parcels[which].Ring)
			case which == len(want.Parcels):
				spoilRing(p.Outer)
				spoilRing(left.Outer)
			default:
				rings := slices.Clone(p.Parcels)
				spoilParcels(p.Parcels)
				p.Parcels = rings
			}
			if !equal(p, left) || !equal(other, want) {
				t.Errorf("list %d of the answer is in another: %s, %s", which, brief(p), brief(other))
			}
			if again, e := gjson.Decode([]byte(text)); !equal(again, want) || e != api.OK {
				t.Errorf("list %d of the answer is kept: %s", which, brief(again))
			}
		}
	}
}

// The text may be written over behind the call, and the plan too.
func TestNothingIsSharedWithWhatIsHandedIn(t *testing.T) {
	for _, want := range []api.Plan{square(), crossroads(), creek()} {
		b := []byte(textOf(want))
		p, _ := gjson.Decode(b)
		for i := range b {
			b[i] = '#'
		}
		if !equal(p, want) {
			t.Errorf("behind a change of the text the plan is %s", brief(p))
		}
		text, _ := gjson.Encode(p)
		spoilRing(p.Outer)
		spoilParcels(p.Parcels)
		if string(text) != textOf(want) {
			t.Errorf("behind a change of the plan the text is %s", brief(string(text)))
		}
	}
}

func TestTextsAreNewMemory(t *testing.T) {
	for _, p := range all() {
		one, _ := gjson.Encode(p)
		other, _ := gjson.Encode(p)
		room := one[:cap(one)]
		for i := range room {
			room[i] = '#'
		}
		again, _ := gjson.Encode(p)
		if string(other) != textOf(p) || string(again) != textOf(p) {
			t.Errorf("Encode answers memory that another answer has: %s, %s", brief(string(other)), brief(string(again)))
		}
	}
}

// Nil and empty lists are the same.
func TestNilAndEmptyLists(t *testing.T) {
	for _, p := range []api.Plan{{}, lay(api.Ring{}), {Outer: nil, Parcels: []api.Parcel{}}, lay(api.Ring{}, api.Parcel{Ring: api.Ring{}}), lay(nil, api.Parcel{})} {
		refusePlan(t, "nothing", p)
	}
	for _, b := range [][]byte{nil, {}} {
		if p, e := gjson.Decode(b); e != api.ErrText || len(p.Outer)+len(p.Parcels) != 0 {
			t.Errorf("of nothing: %s, %d", brief(p), e)
		}
	}
}

// The same calls have the same answers, whatever was asked in between.
func TestNothingIsKept(t *testing.T) {
	type answer struct {
		p api.Plan
		e api.Errno
	}
	var first []answer
	for _, text := range texts() {
		p, e := gjson.Decode([]byte(text))
		first = append(first, answer{copied(p), e})
	}
	for range 3 {
		for i, text := range slices.Backward(texts()) {
			p, e := gjson.Decode([]byte(text))
			if !equal(p, first[i].p) || e != first[i].e {
				t.Errorf("asked again %s is %s, %d", brief(text), brief(p), e)
			}
			giveText(t, "in between", halves(), textOf(halves()))
			refusePlan(t, "in between", lay(halves().Outer))
		}
	}
}

// Several ask at one time.
func TestManyAtOneTime(t *testing.T) {
	p := gate()
	text := textOf(p)
	var group sync.WaitGroup
	for range 8 {
		group.Go(func() {
			for range 100 {
				b, e := gjson.Encode(p)
				q, fault := gjson.Decode([]byte(text))
				_, wrong := gjson.Decode([]byte("{}"))
				if string(b) != text || e != api.OK || !equal(p, q) || fault != api.OK || wrong != api.ErrForm {
					t.Error("what several ask at one time is another")
					return
				}
			}
		})
	}
	group.Wait()
}
