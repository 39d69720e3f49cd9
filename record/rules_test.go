package record_test

import (
	"bytes"
	"fmt"
	"slices"
	"sync"
	"testing"

	"merestone/api"
	"merestone/record"
)

// roomyRing is the same ring with something in its spare room.
func roomyRing(r api.Ring) api.Ring {
	return append(slices.Clone(r), at(77, -77), at(1, 2))[:len(r)]
}

// roomy is the same plan with something in the spare room of all its lists.
func roomy(p api.Plan) api.Plan {
	other := lay(roomyRing(p.Outer))
	for _, one := range p.Parcels {
		one.Ring = roomyRing(one.Ring)
		other.Parcels = append(other.Parcels, one)
	}
	other.Parcels = append(other.Parcels, parcel(9, "x", 1, 1))[:len(p.Parcels)]
	return other
}

// everything is a copy of a plan with all that is in the spare room of its lists.
func everything(p api.Plan) api.Plan {
	other := lay(slices.Clone(p.Outer[:cap(p.Outer)]), slices.Clone(p.Parcels[:cap(p.Parcels)])...)
	for i, one := range other.Parcels {
		other.Parcels[i].Ring = slices.Clone(one.Ring[:cap(one.Ring)])
	}
	return other
}

// Sound or not.
func TestPlansStayAsTheyAre(t *testing.T) {
	plans := unsound(t)
	for name, p := range some() {
		plans[name] = p
	}
	for name, p := range plans {
		handed := roomy(p)
		before := everything(handed)
		list, e := record.Items(handed)
		if !equal(everything(handed), before) {
			t.Errorf("%s: Items made %s of %s", name, brief(everything(handed)), brief(before))
		}
		if other, fault := record.Items(copied(p)); !sameItems(list, other) || e != fault {
			t.Errorf("%s: with spare room it is %s, error %d", name, shown(list), e)
		}
	}
}

// roomyItems is the same list with something in the spare room of all its lists, the items' too.
func roomyItems(list []api.Item) []api.Item {
	var other []api.Item
	for _, one := range list {
		key := append(bytes.Clone(one.Key), "spare"...)[:len(one.Key)]
		value := append(bytes.Clone(one.Value), "room"...)[:len(one.Value)]
		other = append(other, api.Item{Key: key, Value: value})
	}
	return append(other, items("o", "spare", "p", "room", "", "")...)[:len(list)]
}

// allItems is a copy of a list with all that is in the spare room of its lists.
func allItems(list []api.Item) []api.Item {
	var other []api.Item
	for _, one := range list[:cap(list)] {
		other = append(other, api.Item{Key: bytes.Clone(one.Key[:cap(one.Key)]), Value: bytes.Clone(one.Value[:cap(one.Value)])})
	}
	return other
}

// lists are such as are plans, and such as are none; none is in order.
func lists() map[string][]api.Item {
	all := map[string][]api.Item{"nothing": nil, "an item of nothing": {{}}, "texts": items("b", "1", "a", "2", "b", "3", "", "", "o", "x", "p", "")}
	for name, p := range some() {
		falling := written(p)
		slices.Reverse(falling)
		all[name] = falling
		all[name+", one lacking"] = without(falling, 2)
		all[name+", one twice"] = append(falling, falling[1])
		all[name+", another value"] = with(falling, 1, api.Item{Key: falling[1].Key, Value: []byte("A")})
		all[name+", no owner"] = with(falling, 1, api.Item{Key: falling[1].Key, Value: []byte("\n")})
	}
	return all
}

func TestListsStayAsTheyAre(t *testing.T) {
	for name, list := range lists() {
		handed := roomyItems(list)
		before := allItems(handed)
		p, e := record.Plan(handed)
		if !sameItems(allItems(handed), before) {
			t.Errorf("%s: Plan made %s of %s", name, shown(allItems(handed)), shown(before))
		}
		if q, fault := record.Plan(deep(list)); !equal(p, q) || e != fault {
			t.Errorf("%s: with spare room it is %s, error %d", name, brief(p), e)
		}
		for other, next := range lists() {
			old, next := roomyItems(list), roomyItems(next)
			oldBefore, nextBefore := allItems(old), allItems(next)
			put, gone := record.Delta(old, next)
			if !sameItems(allItems(old), oldBefore) || !sameItems(allItems(next), nextBefore) {
				t.Errorf("%s and %s: Delta changed what it was handed", name, other)
			}
			if wantPut, wantGone := judgedDelta(old, next); !sameItems(put, wantPut) || !sameKeys(gone, wantGone) {
				t.Errorf("%s and %s: with spare room Delta is %s, %x", name, other, shown(put), gone)
			}
		}
	}
}

// spoil writes over a list and over its spare room.
func spoil(b []byte) {
	room := b[:cap(b)]
	for i := range room {
		room[i] ^= 0xA5
	}
}

func spoilRing(r api.Ring) {
	room := r[:cap(r)]
	for i := range room {
		room[i] = at(-99, 99)
	}
}

// spoilList writes over the items themselves, not over what they have.
func spoilList(list []api.Item) {
	room := list[:cap(list)]
	for i := range room {
		room[i] = items("spoilt", "spoilt")[0]
	}
}

// parts are all lists of bytes that lists of items have.
func parts(all ...[]api.Item) [][]byte {
	var list [][]byte
	for _, one := range slices.Concat(all...) {
		list = append(list, one.Key, one.Value)
	}
	return list
}

// apart writes over each list of bytes with its spare room, one after the other, and asks that all others stay as they are.
func apart(t *testing.T, what string, all [][]byte) {
	t.Helper()
	var want [][]byte
	for _, b := range all {
		want = append(want, bytes.Clone(b))
	}
	for i, b := range all {
		spoil(b)
		for at := range want[i] {
			want[i][at] ^= 0xA5
		}
		for j := range all {
			if !bytes.Equal(all[j], want[j]) {
				t.Errorf("%s: list %d has memory of list %d", what, j, i)
				return
			}
		}
	}
}

// No list of an answer is in another one, in another answer, or in what was handed in.
func TestItemsAreNewMemory(t *testing.T) {
	for name, p := range some() {
		want := written(p)
		one, other := itemsOf(p), itemsOf(p)
		apart(t, name, parts(one, other))
		if again := itemsOf(p); !sameItems(again, want) {
			t.Errorf("%s: what was answered is kept: %s", name, shown(again))
		}
		one, other = itemsOf(p), itemsOf(p)
		spoilList(one)
		if !sameItems(other, want) || !sameItems(itemsOf(p), want) {
			t.Errorf("%s: a list is another answer's", name)
		}
		handed := copied(p)
		list := itemsOf(handed)
		spoilRing(handed.Outer)
		for _, one := range handed.Parcels {
			spoilRing(one.Ring)
		}
		if !sameItems(list, want) {
			t.Errorf("%s: behind a change of the plan the items are %s", name, shown(list))
		}
	}
}

// Each list of a plan that is answered is written over alone.
func TestPlansAreNewMemory(t *testing.T) {
	for name, want := range some() {
		list := written(want)
		for which := range len(want.Parcels) + 2 {
			p, _ := record.Plan(list)
			other, _ := record.Plan(list)
			left := copied(p)
			switch {
			case which < len(want.Parcels):
				spoilRing(p.Parcels[which].Ring)
				spoilRing(left.Parcels[which].Ring)
			case which == len(want.Parcels):
				spoilRing(p.Outer)
				spoilRing(left.Outer)
			default:
				parcels := slices.Clone(p.Parcels)
				room := p.Parcels[:cap(p.Parcels)]
				for i := range room {
					room[i] = parcel(-9, "spoilt", 9, 9)
				}
				p.Parcels = parcels
			}
			if !equal(p, left) || !equal(other, want) {
				t.Errorf("%s: list %d of the answer is in another: %s, %s", name, which, brief(p), brief(other))
			}
			if again, e := record.Plan(list); !equal(again, want) || e != api.OK {
				t.Errorf("%s: list %d of the answer is kept: %s", name, which, brief(again))
			}
		}
		handed := deep(list)
		p, _ := record.Plan(handed)
		for _, b := range parts(handed) {
			spoil(b)
		}
		spoilList(handed)
		if !equal(p, want) {
			t.Errorf("%s: behind a change of the list the plan is %s", name, brief(p))
		}
	}
}

func TestDeltasAreNewMemory(t *testing.T) {
	pairs := [][2][]api.Item{
		{written(square()), written(halves())}, {written(crossroads()), written(halves())}, {nil, written(square())}, {written(square()), nil},
		{items("a", "1", "b", "2", "a", "2", "d", "x"), items("a", "1", "b", "3", "c", "", "c", "5")},
	}
	for i, pair := range pairs {
		what := fmt.Sprint("pair ", i)
		old, next := roomyItems(pair[0]), roomyItems(pair[1])
		put, gone := record.Delta(old, next)
		otherPut, otherGone := record.Delta(old, next)
		wantPut, wantGone := judgedDelta(pair[0], pair[1])
		apart(t, what, slices.Concat(parts(put, otherPut, old, next), gone, otherGone))
		old, next = deep(pair[0]), deep(pair[1])
		put, gone = record.Delta(old, next)
		otherPut, otherGone = record.Delta(old, next)
		spoilList(otherPut)
		for i := range otherGone[:cap(otherGone)] {
			otherGone[:cap(otherGone)][i] = []byte("spoilt")
		}
		spoilList(old)
		spoilList(next)
		if !sameItems(put, wantPut) || !sameKeys(gone, wantGone) {
			t.Errorf("%s: behind changes elsewhere Delta's answer is %s, %x", what, shown(put), gone)
		}
	}
}

// Items that are one memory, or parts of one, in the lists handed in: the answers have their own.
func TestItemsOfOneMemory(t *testing.T) {
	memory := []byte("abcabc")
	list := []api.Item{{Key: memory[:1], Value: memory[:3]}, {Key: memory[1:2], Value: memory[:1]}, {Key: memory[:3], Value: memory[3:]}, {Key: memory[3:4], Value: memory[3:6]}}
	put, _ := record.Delta(nil, list)
	if !sameItems(put, items("a", "abc", "abc", "abc", "b", "a")) {
		t.Errorf("of one memory: %s", shown(put))
	}
	_, gone := record.Delta(list, nil)
	apart(t, "of one memory", slices.Concat(parts(put), gone, [][]byte{memory}))
	p := alone(1, "A", 0, 0, 4, 0, 4, 4, 0, 4)
	p.Parcels[0].Ring = p.Outer
	giveItems(t, "one ring for two", p, squareItems())
	apart(t, "one ring for two", parts(itemsOf(p)))
}

// Nil and empty lists are the same.
func TestNilAndEmptyLists(t *testing.T) {
	for _, p := range []api.Plan{{}, lay(api.Ring{}), {Outer: nil, Parcels: []api.Parcel{}}, lay(api.Ring{}, api.Parcel{Ring: api.Ring{}}), lay(nil, api.Parcel{})} {
		refusePlan(t, "nothing", p)
	}
	p := crossroads()
	list := written(p)
	for _, nothing := range [][]byte{nil, {}, make([]byte, 0, 9)} {
		var other []api.Item
		for _, one := range list {
			if len(one.Value) == 0 {
				one.Value = nothing
			}
			other = append(other, one)
		}
		give(t, "values of nothing", other, p)
		giveDelta(t, "values of nothing", list, other, nil, nil)
		giveDelta(t, "values of nothing", other, list, nil, nil)
		giveDelta(t, "keys of nothing", []api.Item{{Key: nothing}}, items("", ""), nil, nil)
		giveDelta(t, "keys of nothing", items("", "x"), []api.Item{{Key: nothing, Value: nothing}}, items("", ""), nil)
		giveDelta(t, "keys of nothing", []api.Item{{Key: nothing}, {Key: []byte{}}, {}}, nil, nil, keys(""))
	}
	giveDelta(t, "empty lists", []api.Item{}, []api.Item{}, nil, nil)
	giveDelta(t, "an empty list", []api.Item{}, nil, nil, nil)
}

// The same calls have the same answers, whatever was asked in between.
func TestNothingIsKept(t *testing.T) {
	for range 3 {
		for name, list := range lists() {
			hold(t, name, list)
			put, gone := judgedDelta(list, squareItems())
			giveDelta(t, name, list, squareItems(), put, gone)
			giveItems(t, "in between", square(), squareItems())
			refusePlan(t, "in between", lay(halves().Outer))
			refuse(t, "in between", without(squareItems(), 3))
			give(t, "in between", squareItems(), square())
		}
	}
}

// Several ask at one time, of the same lists.
func TestManyAtOneTime(t *testing.T) {
	p := gate()
	list, other := written(p), written(creek())
	slices.Reverse(list)
	wantPut, wantGone := judgedDelta(list, other)
	var group sync.WaitGroup
	for range 8 {
		group.Go(func() {
			for range 50 {
				got, e := record.Items(p)
				q, fault := record.Plan(list)
				_, wrong := record.Plan(list[1:])
				put, gone := record.Delta(list, other)
				if !sameItems(got, inOrder(list)) || e != api.OK || !equal(p, q) || fault != api.OK || wrong != api.ErrForm || !sameItems(put, wantPut) || !sameKeys(gone, wantGone) {
					t.Error("what several ask at one time is another")
					return
				}
			}
		})
	}
	group.Wait()
}
