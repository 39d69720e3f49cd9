package gjson_test

import (
	"slices"
	"strconv"
	"strings"
	"testing"

	"merestone/api"
)

// An edit changes one part of a tree.
type edit func(part *api.Value)

// written is halves with something more in each object, and not in the order in which Encode writes.
func written() api.Value {
	v := treeOf(halves())
	for _, steps := range objects() {
		v = changed(v, func(part *api.Value) {
			*part = with(*part, "note", list(number("1"), said("Polygon")))
			slices.Reverse(part.Keys)
			slices.Reverse(part.List)
		}, steps...)
	}
	return changed(v, func(part *api.Value) { slices.Reverse(part.List) }, "features")
}

// replacements are what may stand in a part's place.
func replacements() []api.Value {
	return []api.Value{
		null(), {Kind: api.JTrue}, said(""), said("Polygon"), said("Feature"), said("FeatureCollection"), said("Bob"), said("\t"), said("0"), list(), object(), list(list()), list(number("2"), number("0")), list(number("2"), number("4")),
		points(0, 0, 4, 0, 4, 4, 0, 4, 0, 0), points(2, 0, 4, 0, 4, 4, 2, 4, 2, 0), list(points(4, 0, 4, 4, 2, 4, 2, 0, 4, 0)), *treeNode(square(), "territory"), *treeNode(halves(), "features", 0), *treeNode(halves(), "features", 1, "geometry"),
		number("0"), number("1"), number("2"), number("3"), number("4"), number("-0"), number("-1"), number("1.0"), number("2e0"), number("01"), number("1073741824"), number("1073741825"), number("-1073741824"), number("-1073741825"), number("18446744073709551618"),
	}
}

func treeNode(p api.Plan, steps ...any) *api.Value {
	v := treeOf(p)
	return node(&v, steps...)
}

// editsWithin are edits of a list or an object: something goes, comes twice, or changes its place or name.
func editsWithin(part api.Value) []edit {
	var all []edit
	named := part.Kind == api.JObject
	for i := range part.List {
		all = append(all, func(part *api.Value) {
			part.List = slices.Delete(part.List, i, i+1)
			if named {
				part.Keys = slices.Delete(part.Keys, i, i+1)
			}
		}, func(part *api.Value) {
			part.List = append(part.List, deep(part.List[i]))
			if named {
				part.Keys = append(part.Keys, part.Keys[i])
			}
		}, func(part *api.Value) {
			part.List = slices.Concat(part.List[i:], part.List[:i])
			if named {
				part.Keys = slices.Concat(part.Keys[i:], part.Keys[:i])
			}
		}, func(part *api.Value) {
			part.List[0], part.List[i] = part.List[i], part.List[0]
		})
		if named {
			for _, key := range []string{"type", "id", "owner", "note", "Type", ""} {
				all = append(all, func(part *api.Value) { part.Keys[i] = key })
			}
		}
	}
	return append(all, func(part *api.Value) { slices.Reverse(part.List) })
}

// eachEdit goes through all edits of all parts of a tree: others in a part's place, and those within it.
func eachEdit(v api.Value, others []api.Value, visit func(edited func() api.Value)) {
	eachNode(v, func(steps ...any) {
		for _, other := range others {
			visit(func() api.Value { return replaced(v, deep(other), steps...) })
		}
		for _, one := range editsWithin(*node(&v, steps...)) {
			visit(func() api.Value { return changed(v, one, steps...) })
		}
	})
}

// A tally counts what was answered: a sweep is worth something only if it has each answer.
type tally map[api.Errno]int

func (c tally) want(t *testing.T, most map[api.Errno]int) {
	t.Helper()
	for fault, least := range most {
		if c[fault] < least {
			t.Errorf("the answer %d came %d times, and not %d", fault, c[fault], least)
		}
	}
}

func TestEditedTrees(t *testing.T) {
	v, count := written(), tally{}
	giveTree(t, "not edited", v, halves())
	eachEdit(v, replacements(), func(edited func() api.Value) { count[judge(t, show(edited()))]++ })
	count.want(t, map[api.Errno]int{api.OK: 100, api.ErrText: 40, api.ErrForm: 1000, api.ErrRange: 50, api.ErrRing: 50, api.ErrThere: 2})
}

// Two edits, one behind the other: some of all pairs of them.
func TestTreesEditedTwice(t *testing.T) {
	v, others, count, at := written(), replacements(), tally{}, 0
	eachEdit(v, others, func(edited func() api.Value) {
		at++
		if at%7 != 0 {
			return
		}
		eachEdit(edited(), others, func(both func() api.Value) {
			at++
			if at%113 == 0 {
				count[judge(t, show(both()))]++
			}
		})
	})
	count.want(t, map[api.Errno]int{api.OK: 100, api.ErrText: 100, api.ErrForm: 1000, api.ErrRange: 100, api.ErrRing: 100, api.ErrThere: 5})
}

// One byte changed, gone, twice, or one more.
func TestBytesChanged(t *testing.T) {
	text := strings.Replace(textOf(lay(of(0, 0, 2, 0, 10, 0, 2, 4), parcel(1, "A", 0, 0, 2, 0, 2, 4), parcel(12, `"`, 2, 0, 10, 0, 2, 4))), `"id":12`, `"x":-1.5,"id":12`, 1)
	count := tally{}
	for i := range text {
		count[judge(t, text[:i]+text[i+1:])]++
		for _, c := range []string{"0", "1", "-", ".", "e", `"`, "[", "]", "{", "}", ",", ":", " ", "\\", "x", "\xff", "9", text[i : i+1]} {
			count[judge(t, text[:i]+c+text[i+1:])]++
			count[judge(t, text[:i]+c+text[i:])]++
		}
	}
	count.want(t, map[api.Errno]int{api.OK: 100, api.ErrText: 1000, api.ErrForm: 1000, api.ErrRange: 4, api.ErrRing: 20})
}

// Each corner of each ring at all other places near it, alone and with the other rings that have it there.
func TestCornersElsewhere(t *testing.T) {
	count := tally{}
	for _, p := range []api.Plan{halves(), crossroads()} {
		for _, from := range p.Parcels[0].Ring {
			for x := -1; x < 6; x++ {
				for y := -1; y < 6; y++ {
					to := func(r api.Ring) api.Ring {
						other := slices.Clone(r)
						if i := slices.Index(r, from); i >= 0 {
							other[i] = at(x, y)
						}
						return other
					}
					some, all := copied(p), copied(p)
					some.Parcels[0].Ring, all.Outer = to(p.Parcels[0].Ring), to(p.Outer)
					for i, one := range p.Parcels {
						all.Parcels[i].Ring = to(one.Ring)
					}
					count[judge(t, textOf(some))]++
					count[judge(t, textOf(all))]++
				}
			}
		}
	}
	count.want(t, map[api.Errno]int{api.OK: 100, api.ErrForm: 150, api.ErrRing: 100})
}

// All ways in which three or four points of a small grid are written as the one ring of a plan.
func TestAllSmallRings(t *testing.T) {
	count, spots := tally{}, api.Ring{}
	for x := range 3 {
		for y := range 3 {
			spots = append(spots, at(x, y))
		}
	}
	var walk func(r api.Ring, length int)
	walk = func(r api.Ring, length int) {
		if len(r) == length {
			count[judge(t, textOf(lay(r, api.Parcel{ID: 1, Ring: r})))]++
			return
		}
		for _, p := range spots {
			walk(append(slices.Clone(r), p), length)
		}
	}
	walk(nil, 3)
	walk(nil, 4)
	if count[api.OK]+count[api.ErrRing] != 729+6561 {
		t.Errorf("the answers are %v", count)
	}
	count.want(t, tally{api.OK: 500, api.ErrRing: 5000})
}

// All ways in which two numbers stand for the two IDs, and two for two corners' coordinates.
func TestPairsOfNumbers(t *testing.T) {
	v, count := treeOf(halves()), tally{}
	numbers := []string{"-1", "-0", "0", "1", "2", "3", "9", "10", "1.0", "1073741823", "1073741824", "1073741825", "9223372036854775807", "9223372036854775808", "-9223372036854775808", "-9223372036854775809", "18446744073709551616", "18446744073709551617"}
	for _, one := range numbers {
		for _, other := range numbers {
			ids := replaced(replaced(v, number(one), "features", 0, "id"), number(other), "features", 1, "id")
			count[judge(t, show(ids))]++
			for _, point := range []int{1, 2} {
				corner := list(number(one), number(other))
				count[judge(t, show(replaced(v, corner, "territory", "coordinates", 0, point)))]++
				closed := replaced(replaced(v, corner, "territory", "coordinates", 0, 0), list(number(other), number(one)), "territory", "coordinates", 0, 6)
				count[judge(t, show(closed))]++
			}
		}
	}
	count.want(t, tally{api.OK: 20, api.ErrForm: 300, api.ErrRange: 300, api.ErrThere: 5})
}

// Numbers of all lengths.
func TestNumbersOfAllLengths(t *testing.T) {
	for _, digit := range []string{"1", "9"} {
		for length := 1; length < 60; length++ {
			for _, sign := range []string{"", "-"} {
				n := sign + strings.Repeat(digit, length)
				judge(t, strings.Replace(example, `"id":1`, `"id":`+n, 1))
				judge(t, strings.ReplaceAll(example, `[4,4]`, "["+n+",4]"))
				judge(t, strings.ReplaceAll(example, `[4,4]`, "[4,"+n+"]"))
			}
		}
	}
	for shift := range 70 {
		n := strconv.FormatUint(1<<(shift%64), 10)
		judge(t, strings.Replace(example, `"id":1`, `"id":`+n, 1))
		judge(t, strings.ReplaceAll(example, `[4,4]`, "["+n+","+n+"]"))
		judge(t, strings.ReplaceAll(example, `[0,0]`, "[-"+n+",-"+n+"]"))
	}
}
