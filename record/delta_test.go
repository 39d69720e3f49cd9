package record_test

import (
	"bytes"
	"fmt"
	"math/rand/v2"
	"slices"
	"strings"
	"testing"

	"merestone/api"
	"merestone/bend"
	"merestone/cut"
	"merestone/join"
	"merestone/record"
)

// items makes a list of texts: a key and its value, one after the other.
func items(texts ...string) []api.Item {
	var list []api.Item
	for pair := range slices.Chunk(texts, 2) {
		list = append(list, api.Item{Key: []byte(pair[0]), Value: []byte(pair[1])})
	}
	return list
}

func keys(texts ...string) [][]byte {
	var list [][]byte
	for _, text := range texts {
		list = append(list, []byte(text))
	}
	return list
}

func sameKeys(a, b [][]byte) bool {
	return slices.EqualFunc(a, b, bytes.Equal)
}

// giveDelta holds Delta against what it has to be.
func giveDelta(t *testing.T, what string, old, next, put []api.Item, gone [][]byte) {
	t.Helper()
	gotPut, gotGone := record.Delta(old, next)
	if !sameItems(gotPut, put) || !sameKeys(gotGone, gone) {
		t.Errorf("%s: Delta of %s and %s is %s and %x, and not %s and %x", what, shown(old), shown(next), shown(gotPut), gotGone, shown(put), gone)
	}
}

func TestDelta(t *testing.T) {
	for _, c := range []struct {
		name           string
		old, next, put []api.Item
		gone           [][]byte
	}{
		{"nothing and nothing", nil, nil, nil, nil},
		{"nothing and some", nil, items("b", "2", "a", "1"), items("a", "1", "b", "2"), nil},
		{"some and nothing", items("b", "2", "a", "1"), nil, nil, keys("a", "b")},
		{"equal ones", items("a", "1", "b", "2"), items("a", "1", "b", "2"), nil, nil},
		{"equal ones in another order", items("a", "1", "b", "2"), items("b", "2", "a", "1"), nil, nil},
		{"one more", items("b", "2"), items("a", "1", "b", "2", "c", "3"), items("a", "1", "c", "3"), nil},
		{"one fewer", items("a", "1", "b", "2", "c", "3"), items("b", "2"), nil, keys("a", "c")},
		{"another value", items("a", "1", "b", "2"), items("a", "1", "b", "3"), items("b", "3"), nil},
		{"a longer value", items("a", "1"), items("a", "12"), items("a", "12"), nil},
		{"a shorter value", items("a", "12"), items("a", "1"), items("a", "1"), nil},
		{"a value that is gone", items("a", "1"), items("a", ""), items("a", ""), nil},
		{"a value that was nothing", items("a", ""), items("a", "1"), items("a", "1"), nil},
		{"no values", items("a", "", "b", ""), items("b", "", "c", ""), items("c", ""), keys("a")},
		{"values swapped", items("a", "1", "b", "2"), items("a", "2", "b", "1"), items("a", "2", "b", "1"), nil},
		{"all others", items("a", "1", "c", "3"), items("d", "4", "b", "2"), items("b", "2", "d", "4"), keys("a", "c")},
		{"another key with the same value", items("a", "1"), items("b", "1"), items("b", "1"), keys("a")},
		{"a key and a part of it", items("a", "1"), items("aa", "1", "", "1"), items("", "1", "aa", "1"), keys("a")},
		{"a key that is nothing", items("", "1"), items("", "2"), items("", "2"), nil},
		{"a key that is nothing goes", items("", "1", "a", "1"), items("a", "1"), nil, keys("")},
		{"keys and values that change places", items("a", "b"), items("b", "a"), items("b", "a"), keys("a")},
		{"a key and a value cut otherwise", items("ab", "c"), items("a", "bc"), items("a", "bc"), keys("ab")},
		{"the last one of next counts", items("a", "1"), items("a", "2", "a", "3"), items("a", "3"), nil},
		{"the last one of next is the old one", items("a", "1"), items("a", "2", "a", "1"), nil, nil},
		{"the first one of next is the old one", items("a", "1"), items("a", "1", "a", "2"), items("a", "2"), nil},
		{"the last one of old counts", items("a", "1", "a", "2"), items("a", "2"), nil, nil},
		{"the first one of old is the next one", items("a", "1", "a", "2"), items("a", "1"), items("a", "1"), nil},
		{"several on both sides", items("a", "1", "b", "1", "a", "2", "c", "9"), items("b", "2", "a", "2", "b", "1", "d", "4", "d", "5"), items("d", "5"), keys("c")},
		{"several that go", items("a", "1", "a", "2", "a", "3"), nil, nil, keys("a")},
		{"several that come", nil, items("a", "1", "a", "2", "a", ""), items("a", ""), nil},
		{"keys that are no text", items("\xff", "1", "\x00", "2", "\x80", "3"), items("\xff\x00", "1", "\xff", "2", "\x7f", "3"), items("\x7f", "3", "\xff", "2", "\xff\x00", "1"), keys("\x00", "\x80")},
		{"keys by rising bytes", nil, items("b", "", "a\xff", "", "a", "", "B", "", "aa", "", "\xff", "", "", "", "\x00", "", "\xc3\xa9", "", "z", "", "a\x00", ""),
			items("", "", "\x00", "", "B", "", "a", "", "a\x00", "", "aa", "", "a\xff", "", "b", "", "z", "", "\xc3\xa9", "", "\xff", ""), nil},
		{"keys that go by rising bytes", items("b", "", "a\xff", "", "a", "", "B", "", "aa", "", "\xff", "", "", "", "\x00", "", "\xc3\xa9", "", "z", "", "a\x00", ""), nil,
			nil, keys("", "\x00", "B", "a", "a\x00", "aa", "a\xff", "b", "z", "\xc3\xa9", "\xff")},
		{"keys and values beyond a tree's", items(strings.Repeat("k", 5000), "1"), items(strings.Repeat("k", 4999), strings.Repeat("v", 70000)), items(strings.Repeat("k", 4999), strings.Repeat("v", 70000)), keys(strings.Repeat("k", 5000))},
	} {
		giveDelta(t, c.name, c.old, c.next, c.put, c.gone)
	}
}

// valueOf answers the value of the last item with that key, looked for from the end.
func valueOf(list []api.Item, key []byte) (value []byte, there bool) {
	for _, one := range slices.Backward(list) {
		if bytes.Equal(one.Key, key) {
			return one.Value, true
		}
	}
	return nil, false
}

// judgedDelta goes from each key of both to the next one, and asks both lists of it.
func judgedDelta(old, next []api.Item) (put []api.Item, gone [][]byte) {
	all := inOrder(slices.Concat(old, next))
	for i, one := range all {
		if i > 0 && bytes.Equal(all[i-1].Key, one.Key) {
			continue
		}
		was, before := valueOf(old, one.Key)
		is, behind := valueOf(next, one.Key)
		switch {
		case behind && !(before && bytes.Equal(was, is)):
			put = append(put, api.Item{Key: one.Key, Value: is})
		case before && !behind:
			gone = append(gone, one.Key)
		}
	}
	return put, gone
}

// holdDelta holds Delta against the judge, and asks that it makes next of old.
func holdDelta(t *testing.T, what string, old, next []api.Item) {
	t.Helper()
	put, gone := judgedDelta(old, next)
	giveDelta(t, what, old, next, put, gone)
	gotPut, gotGone := record.Delta(old, next)
	made := changed(old, gotPut, gotGone)
	if !sameItems(made, lastOnes(next)) {
		t.Errorf("%s: Delta makes %s of %s, and not %s", what, shown(made), shown(old), shown(next))
	}
}

// lastOnes answers the last item of each key, by rising keys.
func lastOnes(list []api.Item) []api.Item {
	var last []api.Item
	for i, one := range list {
		if _, again := valueOf(list[i+1:], one.Key); !again {
			last = append(last, one)
		}
	}
	return inOrder(last)
}

// changed answers the list without what is gone, and with what is put.
func changed(list, put []api.Item, gone [][]byte) []api.Item {
	left := slices.DeleteFunc(slices.Clone(list), func(one api.Item) bool {
		_, replaced := valueOf(put, one.Key)
		return replaced || slices.ContainsFunc(gone, func(key []byte) bool { return bytes.Equal(key, one.Key) })
	})
	return lastOnes(slices.Concat(left, put))
}

// eachList goes through all lists of up to so many items of a few.
func eachList(most int, of []api.Item, visit func([]api.Item)) {
	var list []api.Item
	var more func()
	more = func() {
		visit(slices.Clone(list))
		if len(list) == most {
			return
		}
		for _, one := range of {
			list = append(list, one)
			more()
			list = list[:len(list)-1]
		}
	}
	more()
}

// Each two lists of up to three items, of three keys with two values each.
func TestAllSmallLists(t *testing.T) {
	few := items("", "", "", "x", "a", "", "a", "x", "aa", "", "aa", "x")
	count := 0
	eachList(3, few, func(old []api.Item) {
		eachList(3, few, func(next []api.Item) {
			count++
			put, gone := judgedDelta(old, next)
			giveDelta(t, "small lists", old, next, put, gone)
		})
	})
	eachList(2, few, func(old []api.Item) {
		eachList(2, few, func(next []api.Item) { holdDelta(t, "small lists", old, next) })
	})
	if count != 259*259 {
		t.Errorf("%d pairs of lists", count)
	}
}

func TestLongerLists(t *testing.T) {
	random := rand.New(rand.NewPCG(14, 3))
	any := func(many int) []api.Item {
		var list []api.Item
		for range random.IntN(many + 1) {
			key := make([]byte, random.IntN(3))
			for i := range key {
				key[i] = []byte{0, 1, 'a', 127, 128, 255}[random.IntN(6)]
			}
			list = append(list, api.Item{Key: key, Value: bytes.Repeat([]byte{byte(random.IntN(2))}, random.IntN(3))})
		}
		return list
	}
	for range 2000 {
		many := 1 + random.IntN(60)
		holdDelta(t, "lists", any(many), any(many))
	}
	var old, next []api.Item
	for i := range 30000 {
		old = append(old, items(fmt.Sprintf("%06d", i*7919%30000), "x")...)
		next = append(next, items(fmt.Sprintf("%06d", i*104729%30000+1), "x")...)
	}
	giveDelta(t, "long lists", old, next, items("030000", "x"), keys("000000"))
}

// One list on both sides, whose items are the same memory.
func TestOneListOnBothSides(t *testing.T) {
	for name, p := range some() {
		list := written(p)
		giveDelta(t, name, list, list, nil, nil)
		giveDelta(t, name+", copied", list, deep(list), nil, nil)
		falling := slices.Clone(list)
		slices.Reverse(falling)
		giveDelta(t, name+", falling", list, falling, nil, nil)
		giveDelta(t, name+", twice", list, slices.Concat(falling, list), nil, nil)
		holdDelta(t, name+", without the first half", list, list[len(list)/2:])
		holdDelta(t, name+", with another half", list[len(list)/2:], list[:len(list)/2+1])
		giveDelta(t, name+", from nothing", nil, falling, list, nil)
		put, gone := record.Delta(falling, nil)
		if len(put) > 0 || !slices.EqualFunc(gone, list, func(key []byte, one api.Item) bool { return bytes.Equal(key, one.Key) }) {
			t.Errorf("%s, to nothing: %s, %x", name, shown(put), gone)
		}
	}
}

func must(t *testing.T) func(api.Plan, api.Errno) api.Plan {
	return func(p api.Plan, e api.Errno) api.Plan {
		t.Helper()
		if e != api.OK {
			t.Fatalf("error %d", e)
		}
		return p
	}
}

// What plans have before and behind a deed: the changes make the items of the one from those of the other.
func TestDeltaOfPlans(t *testing.T) {
	need := must(t)
	p := square()
	steps := []api.Plan{p}
	step := func(next api.Plan, e api.Errno) {
		p = need(next, e)
		steps = append(steps, p)
	}
	step(cut.Split(p, 1, of(2, 0, 2, 4), 2))
	step(bend.Mark(p, at(2, 2)))
	step(bend.Move(p, at(2, 2), at(3, 2)))
	step(cut.Split(p, 2, of(0, 2, 3, 2), 9))
	step(bend.Move(p, at(3, 2), at(1, 1)))
	step(join.Merge(p, 1, 2))
	step(join.Merge(p, 1, 9))
	steps = append(steps, slices.Concat([]api.Plan{{}}, []api.Plan{ofCorners(33), ofCorners(32), ofCorners(3)})...)
	for _, before := range steps {
		for _, behind := range steps {
			holdDelta(t, "plans", itemsOf(before), itemsOf(behind))
			put, gone := record.Delta(itemsOf(before), itemsOf(behind))
			if q, e := record.Plan(changed(itemsOf(before), put, gone)); !equal(q, behind) || (e != api.OK) != isNothing(behind) {
				t.Errorf("behind the changes there is %s, error %d, and not %s", brief(q), e, brief(behind))
			}
		}
	}
}

// itemsOf answers a plan's items, of nothing nothing.
func itemsOf(p api.Plan) []api.Item {
	list, _ := record.Items(p)
	return list
}

// What a parcel's new owner changes, and what a cut does: written out.
func TestDeltaOfAnOwnerAndOfACut(t *testing.T) {
	other := square()
	other.Parcels[0].Owner = "B"
	giveDelta(t, "an owner", squareItems(), itemsOf(other), []api.Item{owned("p 00000001 00", "B")}, nil)
	const low, high = "40000002 40000000", "40000002 40000004"
	behind := must(t)(cut.Split(square(), 1, of(2, 0, 2, 4), 2))
	put := inOrder([]api.Item{
		item("c 80 80 00000002", ""),
		item("e"+lowLeft+low, "00000002"), item("e"+low+high, "00000002"), item("e"+high+highLeft, "00000002"), item("e"+highLeft+lowLeft, "00000002"),
		item("e"+low+lowRight, "00000001"), item("e"+highRight+high, "00000001"), item("e"+high+low, "00000001"),
		item("o 00", lowLeft+low+lowRight+highRight+high+highLeft),
		item("p 00000001 01", low+lowRight+highRight+high),
		owned("p 00000002 00", "A"), item("p 00000002 01", lowLeft+low+high+highLeft),
	})
	gone := [][]byte{item("e"+lowLeft+lowRight, "").Key, item("e"+highRight+highLeft, "").Key}
	giveDelta(t, "a cut", squareItems(), itemsOf(behind), put, gone)
}
