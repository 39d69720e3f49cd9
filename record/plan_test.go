package record_test

import (
	"bytes"
	"fmt"
	"math/rand/v2"
	"slices"
	"strings"
	"testing"

	"merestone/api"
	"merestone/record"
)

// some are plans with few items, and with items of all kinds in more than one part.
func some() map[string]api.Plan {
	return map[string]api.Plan{
		"square": square(), "halves": halves(), "crossroads": crossroads(),
		"around":     view{to: func(p api.Point) api.Point { return at(p.X-2, p.Y-2) }}.plan(halves()),
		"17 corners": ofCorners(17), "33 corners": ofCorners(33),
	}
}

// permuted goes through the list in all orders.
func permuted(list []api.Item, visit func([]api.Item)) {
	order := slices.Clone(list)
	var swap func(int)
	swap = func(first int) {
		if first == len(order) {
			visit(order)
			return
		}
		for i := first; i < len(order); i++ {
			order[first], order[i] = order[i], order[first]
			swap(first + 1)
			order[first], order[i] = order[i], order[first]
		}
	}
	swap(0)
}

// A triangle's seven items in all orders.
func TestAllOrders(t *testing.T) {
	p := alone(3, "Ann", 0, 0, 4, 0, 0, 4)
	list, orders := written(p), 0
	if len(list) != 7 {
		t.Fatalf("%d items", len(list))
	}
	permuted(list, func(order []api.Item) {
		orders++
		give(t, "a triangle", order, p)
	})
	if orders != 5040 {
		t.Errorf("%d orders", orders)
	}
}

func TestAnyOrder(t *testing.T) {
	random := rand.New(rand.NewPCG(14, 1))
	look := func(what string, p api.Plan, times int) {
		list := written(p)
		falling := slices.Clone(list)
		slices.Reverse(falling)
		give(t, what+", falling", falling, p)
		for range times {
			give(t, what+", shuffled", shuffled(list, random), p)
		}
	}
	eachPlan(t, func(what string, p api.Plan) { look(what, p, 3) })
	for name, p := range large() {
		look(name, p, 2)
	}
	for name, p := range some() {
		list := written(p)
		for first := range list {
			give(t, name+", begun elsewhere", slices.Concat(list[first:], list[:first]), p)
			for other := range first {
				swapped := slices.Clone(list)
				swapped[first], swapped[other] = list[other], list[first]
				give(t, name+", two swapped", swapped, p)
			}
		}
	}
}

// without answers the list without one item.
func without(list []api.Item, i int) []api.Item {
	return slices.Delete(slices.Clone(list), i, i+1)
}

// with answers the list with another item there.
func with(list []api.Item, i int, one api.Item) []api.Item {
	other := slices.Clone(list)
	other[i] = one
	return other
}

func TestItemsLacking(t *testing.T) {
	for name, p := range some() {
		list := written(p)
		for i := range list {
			refuse(t, name+", one lacking", without(list, i))
			for j := range i {
				refuse(t, name+", two lacking", without(without(list, i), j))
			}
			refuse(t, name+", the first ones", list[:i])
			refuse(t, name+", the last ones", list[i+1:])
		}
		for _, mark := range []byte("ceop") {
			kind := func(one api.Item) bool { return one.Key[0] == mark }
			refuse(t, name+", a kind lacking", slices.DeleteFunc(slices.Clone(list), kind))
			refuse(t, name+", a kind alone", slices.DeleteFunc(slices.Clone(list), func(one api.Item) bool { return !kind(one) }))
		}
	}
	for name, p := range large() {
		list := written(p)
		for i := 0; i < len(list); i += 1 + len(list)/40 {
			refuse(t, name+", one lacking", without(list, i))
		}
	}
}

// Each item is there twice, the second time at each place, as it is or with another value.
func TestItemsTwice(t *testing.T) {
	for name, p := range some() {
		list := written(p)
		for _, one := range list {
			others := []api.Item{one, {Key: bytes.Clone(one.Key), Value: bytes.Clone(one.Value)}, {Key: one.Key}, {Key: one.Key, Value: append([]byte{0}, one.Value...)}, {Key: one.Key, Value: append(bytes.Clone(one.Value), 'x')}}
			for _, other := range others {
				for i := range len(list) + 1 {
					refuse(t, name+", one twice", slices.Insert(slices.Clone(list), i, other))
				}
			}
		}
		refuse(t, name+", all twice", slices.Concat(list, list))
	}
}

// One is there twice, and another one lacks.
func TestItemsTwiceForOthers(t *testing.T) {
	for name, p := range some() {
		list := written(p)
		for i := range list {
			for j := range list {
				if i != j {
					refuse(t, name+", one for another", with(list, i, list[j]))
				}
			}
		}
	}
}

// Items that have no place in a plan's, and such as another plan has, beside all that this one has.
func TestItemsTooMany(t *testing.T) {
	for name, p := range some() {
		list := written(p)
		id := digits(p.Parcels[0].ID)
		from, to := place(p.Outer[0]), place(p.Outer[1])
		more := []api.Item{
			{}, {Key: []byte{}, Value: []byte{}}, {Value: []byte("x")},
			item("o", ""), item("o", from), item("o 00 00", ""), item("o 00 00", from), item("o 07", ""), item("o 08", ""), item("o 03", from), item("o 08", from), item("o ff", ""), item("o ff", from),
			item("p", ""), item("p"+id, ""), item("p"+id, from), item("p"+id+"00 00", ""), item("p"+id+"08", ""), item("p"+id+"09", ""), item("p"+id+"04", from), item("p"+id+"ff", ""), item("p"+id+"ff", from), item("p"+id+"01 00", from),
			item("p 00000000 00", ""), item("p 00000000 01", from), item("p 00000007 00", ""), item("p 00000007 01", ""), item("p 00000007 01", from), item("p 3fffffff 00", ""), item("p 3fffffff 01", ""), item("p 40000001 00", ""), item("p ffffffff 00", ""), item("p ffffffff 01", from), item("p 000007", ""), item("p 0007", "41"),
			item("e", ""), item("e", id), item("e"+to+from, id), item("e"+to+from, ""), item("e"+from+from, id), item("e"+from+to+"00", id), item("e"+from, id), item("e 77777777 77777777 77777777 77777777", id), item("e"+to+place(p.Outer[0]), "00000007"),
			item("c", ""), item("c 80", ""), item("c 80 80", ""), item("c 84 84"+id, ""), item("c 7c 7c"+id, ""), item("c 81 81"+id, ""), item("c 85 80"+id, ""), item("c 00 00"+id, ""), item("c 80 80 00000007", ""), item("c 80 80 00000000", ""), item("c 80 80 ffffffff", ""), item("c 80 80"+id+"00", ""),
		}
		for _, key := range []string{"a", "b", "d", "f", "n", "q", "O", "P", "\x00", "\xff", "\x70\x00", "oo", "pp", "outer", "point", strings.Repeat("o", 32), strings.Repeat("p", 33), strings.Repeat("\xff", 9999)} {
			more = append(more, owned("x", ""), api.Item{Key: []byte(key)}, api.Item{Key: []byte(key), Value: unhex(from)}, api.Item{Key: []byte(key), Value: []byte("Ann")})
		}
		for _, one := range more {
			if slices.ContainsFunc(list, func(its api.Item) bool { return bytes.Equal(its.Key, one.Key) }) {
				t.Fatalf("%s has %s", name, shown([]api.Item{one}))
			}
			refuse(t, name+", one too many", append(slices.Clone(list), one))
			refuse(t, name+", one too many, first", append([]api.Item{one}, list...))
			for i := range list {
				refuse(t, name+", one for another", with(list, i, one))
			}
		}
	}
}

// isOwner answers whether the item is one of an owner, and would still be with that value.
func isOwner(one api.Item, value []byte) bool {
	return one.Key[0] == 'p' && one.Key[5] == 0 && len(value) <= 32 && !slices.ContainsFunc(value, func(b byte) bool { return b < 32 || b > 126 })
}

// Each byte of each value as each other byte: but for an owner's, that is no plan.
func TestOtherValues(t *testing.T) {
	accepted := 0
	for _, p := range []api.Plan{square(), halves()} {
		list := written(p)
		for i, one := range list {
			for place := range one.Value {
				for b := range 256 {
					if byte(b) == one.Value[place] {
						continue
					}
					other := api.Item{Key: one.Key, Value: bytes.Clone(one.Value)}
					other.Value[place] = byte(b)
					changed := with(list, i, other)
					if !isOwner(other, other.Value) {
						refuse(t, "a byte of a value", changed)
						continue
					}
					accepted++
					q := copied(p)
					for k := range q.Parcels {
						if q.Parcels[k].ID == int(one.Key[4]) {
							q.Parcels[k].Owner = string(other.Value)
						}
					}
					give(t, "a byte of an owner", changed, q)
				}
			}
		}
	}
	if accepted != 7*94 {
		t.Errorf("%d other owners", accepted)
	}
}

// Each byte of each key as each other byte.
func TestOtherKeys(t *testing.T) {
	for _, p := range []api.Plan{square(), halves()} {
		list := written(p)
		for i, one := range list {
			for place := range one.Key {
				for b := range 256 {
					other := api.Item{Key: bytes.Clone(one.Key), Value: one.Value}
					other.Key[place] = byte(b)
					if byte(b) != one.Key[place] {
						refuse(t, "a byte of a key", with(list, i, other))
					}
				}
			}
		}
	}
}

// pieces are what may come ahead of a key or a value, or behind it.
func pieces() [][]byte {
	return [][]byte{{0}, {1}, {32}, {127}, {255}, {'o'}, {'p'}, unhex("00 00 00 00"), unhex("00 00 00 01"), unhex(lowLeft), unhex(highRight), unhex(lowLeft + highRight), make([]byte, 128), bytes.Repeat([]byte{255}, 128)}
}

// Keys and values that are shorter, longer, or nothing.
func TestOtherLengths(t *testing.T) {
	for name, p := range some() {
		list := written(p)
		for i, one := range list {
			var keys, values [][]byte
			for length := range one.Key {
				keys = append(keys, one.Key[:length], one.Key[length+1:])
			}
			for length := range one.Value {
				values = append(values, one.Value[:length], one.Value[length+1:])
			}
			for _, piece := range pieces() {
				keys = append(keys, slices.Concat(piece, one.Key), slices.Concat(one.Key, piece))
				values = append(values, slices.Concat(piece, one.Value), slices.Concat(one.Value, piece))
			}
			for _, key := range keys {
				refuse(t, name+", another key", with(list, i, api.Item{Key: key, Value: one.Value}))
			}
			for _, value := range values {
				changed := with(list, i, api.Item{Key: one.Key, Value: value})
				if isOwner(one, value) {
					hold(t, name+", another owner", changed)
				} else {
					refuse(t, name+", another value", changed)
				}
			}
		}
	}
}

// Two items have each other's values, or each other's keys.
func TestSwappedValues(t *testing.T) {
	for name, p := range some() {
		list := written(p)
		for i, one := range list {
			for j, other := range list[:i] {
				changed := with(with(list, i, api.Item{Key: one.Key, Value: other.Value}), j, api.Item{Key: other.Key, Value: one.Value})
				if bytes.Equal(one.Value, other.Value) || isOwner(one, other.Value) && isOwner(other, one.Value) {
					hold(t, name+", two values swapped", changed)
				} else {
					refuse(t, name+", two values swapped", changed)
				}
			}
		}
	}
}

// The points are cut otherwise: as whole as may be, in smaller parts, with a part of none, or with the parts in other places.
func TestPointsCutOtherwise(t *testing.T) {
	for _, corners := range []int{15, 16, 17, 31, 32, 33, 128} {
		p := ofCorners(corners)
		needSound(t, "a ring", p)
		text := ""
		for _, c := range p.Outer {
			text += place(c)
		}
		list := slices.DeleteFunc(written(p), func(one api.Item) bool { return one.Key[0] == 'o' })
		for many := 1; many <= 130; many++ {
			var parts []api.Item
			for part := range slices.Chunk([]byte(text), 16*many) {
				parts = append(parts, item(fmt.Sprintf("o %02x", len(parts)), string(part)))
			}
			if many == 16 || corners < 17 && many >= corners {
				give(t, "sixteen to an item", slices.Concat(list, parts), p)
				refuse(t, "a part of none behind", slices.Concat(list, parts, []api.Item{item(fmt.Sprintf("o %02x", len(parts)), "")}))
				for i := range parts {
					parts[i].Key[1]++
				}
				refuse(t, "from 1 on", slices.Concat(list, parts))
				refuse(t, "a part of none ahead", slices.Concat(list, parts, []api.Item{item("o 00", "")}))
				continue
			}
			refuse(t, "cut otherwise", slices.Concat(list, parts))
		}
	}
}

func TestRingsCutOtherwise(t *testing.T) {
	for _, corners := range []int{15, 16, 17, 32, 33} {
		p := ofCorners(corners)
		text := ""
		for _, c := range p.Outer {
			text += place(c)
		}
		list := slices.DeleteFunc(written(p), func(one api.Item) bool { return one.Key[0] == 'p' && one.Key[5] > 0 })
		for many := 1; many <= 40; many++ {
			var parts []api.Item
			for part := range slices.Chunk([]byte(text), 16*many) {
				parts = append(parts, item(fmt.Sprintf("p 0000004d %02x", len(parts)+1), string(part)))
			}
			all := slices.Concat(list, parts)
			if many == 16 || corners < 17 && many >= corners {
				give(t, "sixteen to an item", all, p)
				refuse(t, "a part of none behind", append(all, item(fmt.Sprintf("p 0000004d %02x", len(parts)+1), "")))
				refuse(t, "a part of none amid", append(slices.DeleteFunc(slices.Clone(all), func(one api.Item) bool { return one.Key[0] == 'p' && one.Key[5] == 0 }), item("p 0000004d 00", text)))
				continue
			}
			refuse(t, "cut otherwise", all)
		}
	}
}

// All that a plan has but what is wrong with it: the items are in order, and fit one another. Some faults are none that items tell: parcels have no order there, and an ID no fifth byte.
func TestItemsOfNoSoundPlan(t *testing.T) {
	five := copied(crossroads())
	five.Parcels[3].ID = 77
	untold := map[string]api.Plan{"IDs that fall": crossroads(), "IDs that fall at the end": crossroads(), "an ID of five bytes": five}
	for name, p := range unsound(t) {
		if want, is := untold[name]; is {
			give(t, name, written(p), want)
			continue
		}
		refuse(t, name, written(p))
	}
	refuse(t, "nothing", nil)
	refuse(t, "nothing", []api.Item{})
	refuse(t, "an item of nothing", []api.Item{{}})
	refuse(t, "items of nothing", make([]api.Item, 1000))
}

// Coordinates and IDs beyond their limits have bytes too.
func TestNumbersBeyondTheLimits(t *testing.T) {
	for _, beyond := range []int{limit + 1, limit + 2, 2 * limit, 2*limit + 7, 3*limit - 2, -limit - 1, -limit - 9} {
		far := max(beyond, beyond+4)
		refuse(t, "a coordinate", written(alone(1, "A", far-4, 0, far, 0, far, 4, far-4, 4)))
		refuse(t, "a coordinate", written(alone(1, "A", 0, far-4, 4, far-4, 4, far, 0, far)))
		refuse(t, "a coordinate", written(alone(1, "A", 0, 0, far, 0, far, 4)))
	}
	for _, id := range []int{0, api.MaxID + 1, api.MaxID + 2, 1<<31 - 1, 1 << 31, 1<<32 - 1} {
		refuse(t, "an ID", written(alone(id, "A", 0, 0, 4, 0, 4, 4, 0, 4)))
	}
}

// Two plans' items in one list: those of both, those that one alone has, some of one and the rest of the other.
func TestItemsOfTwoPlans(t *testing.T) {
	for name, p := range some() {
		for other, q := range some() {
			if name == other {
				continue
			}
			one, two := written(p), written(q)
			refuse(t, name+" and "+other, slices.Concat(one, two))
			joined := slices.CompactFunc(inOrder(slices.Concat(one, two)), func(a, b api.Item) bool { return bytes.Equal(a.Key, b.Key) })
			refuse(t, name+" and what is new of "+other, joined)
			for _, mark := range []byte("ceop") {
				ofBoth := slices.Concat(
					slices.DeleteFunc(slices.Clone(one), func(its api.Item) bool { return its.Key[0] == mark }),
					slices.DeleteFunc(slices.Clone(two), func(its api.Item) bool { return its.Key[0] != mark }))
				hold(t, name+" with a kind of "+other, ofBoth)
			}
		}
	}
}

// A plan and the one behind a cut: each part of what has changed alone is refused, all of it is the next plan.
func TestChangesInPart(t *testing.T) {
	before, behind := square(), halves()
	behind.Parcels[0].Owner = "A"
	put, gone := record.Delta(written(before), written(behind))
	accepted := 0
	for part := range 1 << len(put) {
		list := written(before)
		for i, one := range put {
			if part>>i&1 == 1 {
				list = slices.DeleteFunc(list, func(its api.Item) bool { return bytes.Equal(its.Key, one.Key) })
				list = append(list, one)
			}
		}
		for _, drop := range []bool{false, true} {
			if drop {
				list = slices.DeleteFunc(list, func(its api.Item) bool {
					return slices.ContainsFunc(gone, func(key []byte) bool { return bytes.Equal(key, its.Key) })
				})
			}
			if hold(t, "a part of a change", list) == api.OK {
				accepted++
			}
		}
	}
	if accepted != 2 {
		t.Errorf("%d of the parts are plans", accepted)
	}
}

// Many edits at once, each list held against the judge.
func TestManyEdits(t *testing.T) {
	random := rand.New(rand.NewPCG(14, 2))
	others := append(written(crossroads()), written(square())...)
	accepted := 0
	for name, p := range some() {
		for range 400 {
			list := shuffled(deep(written(p)), random)
			for range random.IntN(4) {
				list = edited(list, others, random)
			}
			if hold(t, name+", edited", list) == api.OK {
				accepted++
			}
		}
	}
	if accepted < 400 || accepted > 2000 {
		t.Errorf("%d edited lists are plans", accepted)
	}
}

func edited(list, others []api.Item, random *rand.Rand) []api.Item {
	if len(list) == 0 {
		return list
	}
	i := random.IntN(len(list))
	switch random.IntN(7) {
	case 0:
		return without(list, i)
	case 1:
		return append(list, list[i])
	case 2:
		return append(list, others[random.IntN(len(others))])
	case 3:
		return with(list, i, api.Item{Key: list[i].Key, Value: list[random.IntN(len(list))].Value})
	case 4:
		return with(list, i, api.Item{Key: list[random.IntN(len(list))].Key, Value: list[i].Value})
	case 5:
		if len(list[i].Value) > 0 {
			value := bytes.Clone(list[i].Value)
			value[random.IntN(len(value))] ^= byte(1 << random.IntN(8))
			return with(list, i, api.Item{Key: list[i].Key, Value: value})
		}
	}
	return slices.Concat(list[i:], list[:i])
}

// Lists far longer than a plan's, and values far longer than an item's, are refused too.
func TestLongLists(t *testing.T) {
	list := written(square())
	points := unhex(strings.Repeat(lowLeft+lowRight+highRight+highLeft, 50000))
	for _, key := range []string{"o 00", "o 01", "p 00000001 01", "p 00000001 02", "p 00000001 00", "p 00000002 00", "c 80 80 00000001", "c", "e"} {
		long := api.Item{Key: item(key, "").Key, Value: points}
		refuse(t, "a long value", append(slices.Clone(list), long))
		refuse(t, "a long value alone", []api.Item{long})
		refuse(t, "the same one often", slices.Repeat([]api.Item{{Key: long.Key, Value: points[:128]}}, 20000))
	}
	refuse(t, "a long key", append(slices.Clone(list), api.Item{Key: points}))
	var many []api.Item
	for id := range 20000 {
		many = append(many, owned("p"+digits(id+1)+"00", "A"), item("p"+digits(id+1)+"01", lowLeft+lowRight+highRight))
	}
	refuse(t, "parcels by the thousand", many)
	refuse(t, "parcels by the thousand", slices.Concat(many, list))
}
