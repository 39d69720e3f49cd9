package gjson_test

import (
	"math"
	"slices"
	"strconv"
	"strings"
	"testing"

	"merestone/api"
)

// eachNumber goes through the numbers of a tree: the coordinates and the IDs.
func eachNumber(v api.Value, visit func(steps ...any)) {
	eachNode(v, func(steps ...any) {
		if node(&v, steps...).Kind == api.JNumber {
			visit(steps...)
		}
	})
}

// What is a number, but not of digits with or without a - ahead, is ErrForm, also where its worth is that of the number that it replaces.
func TestNumbersOfAnotherForm(t *testing.T) {
	v := treeOf(halves())
	eachNumber(v, func(steps ...any) {
		was := node(&v, steps...).Text
		for _, text := range []string{"-0", "0.0", "-0.0", "0e0", "0E0", "0e5", "1.5", "1.0", "1e0", "1E0", "1e+0", "1e-0", "1e9", "10e-1", "1e400", "-1.0", "-1e0", "1.0e0", "0.1", "-0.1", "-0e0", "-0E+1", was + ".0", was + "e0", was + "E0", was + "e+00", was + ".0E-0"} {
			refuseTree(t, "another form", replaced(v, number(text), steps...), api.ErrForm)
		}
	})
}

// What is no number is the parser's error.
func TestNumbersThatAreNone(t *testing.T) {
	v := treeOf(halves())
	eachNumber(v, func(steps ...any) {
		was := node(&v, steps...).Text
		for _, text := range []string{"", "-", "+", "--1", "+1", "00", "01", "-00", "-01", "0" + was, "-0" + was, "+" + was, was + ".", was + "e", "." + was, "0x1", "1_0", "1-", "1-2", "1 2", "\u0661", "Infinity", "-Infinity", "NaN"} {
			refuseTree(t, "no number", replaced(v, number(text), steps...), api.ErrText)
		}
	})
	for _, text := range []string{"null", "true", `"1"`, "[1]", "{}", "[]", `""`} {
		refuse(t, "no number", strings.Replace(example, `"id":1`, `"id":`+text, 1), api.ErrForm)
		refuse(t, "no number", strings.Replace(example, "[4,4]", "["+text+",4]", 1), api.ErrForm)
		refuse(t, "no number", strings.Replace(example, "[4,4]", "[4,"+text+"]", 1), api.ErrForm)
	}
}

// far are numbers that no coordinate and no ID is, as they are written.
func far() []string {
	list := []string{strings.Repeat("9", 1000), "-" + strings.Repeat("9", 1000), "1" + strings.Repeat("0", 100), "340282366920938463463374607431768211456", "18446744073709551616", "18446744073709551617", "36893488147419103233", "-18446744073709551615"}
	for _, n := range []int{limit + 1, limit + 2, limit * 2, limit * 4, limit*4 + 1, 1<<33 + 1, 10000000000, math.MaxInt, math.MaxInt - 1} {
		list = append(list, strconv.Itoa(n), strconv.Itoa(-n))
	}
	return append(list, strconv.Itoa(math.MinInt), "9223372036854775808", "-9223372036854775809", "9223372036854775809")
}

func TestIDsBeyondTheLimits(t *testing.T) {
	v := treeOf(halves())
	for _, text := range append(far(), "0", "-1", "-2", "-1000", "-1073741824") {
		for i := range 2 {
			refuseTree(t, "an ID", replaced(v, number(text), "features", i, "id"), api.ErrRange)
		}
	}
}

// Each coordinate of each corner, beyond what a coordinate may be by one or by much. Of a first point the last one goes with it.
func TestCoordinatesBeyondTheLimits(t *testing.T) {
	v := treeOf(halves())
	eachCoordinate(v, func(ring []any, point, xy int) {
		for _, text := range far() {
			refuseTree(t, "a coordinate", moved(v, ring, point, xy, text), api.ErrRange)
		}
	})
}

// eachCoordinate goes through those of all rings of a tree but the last points'.
func eachCoordinate(v api.Value, visit func(ring []any, point, xy int)) {
	rings := [][]any{{"territory"}}
	for i := range node(&v, "features").List {
		rings = append(rings, []any{"features", i, "geometry"})
	}
	for _, ring := range rings {
		ring = append(ring, "coordinates", 0)
		for point := range len(node(&v, ring...).List) - 1 {
			visit(ring, point, 0)
			visit(ring, point, 1)
		}
	}
}

// moved writes another number for a coordinate, twice for that of the first point.
func moved(v api.Value, ring []any, point, xy int, text string) api.Value {
	return changed(v, func(part *api.Value) {
		*node(part, point, xy) = number(text)
		if point == 0 {
			*node(part, len(part.List)-1, xy) = number(text)
		}
	}, ring...)
}

// At the limits, each coordinate and each ID is one; what comes of the ring is another thing.
func TestNumbersAtTheLimits(t *testing.T) {
	v := treeOf(halves())
	eachCoordinate(v, func(ring []any, point, xy int) {
		for _, n := range []int{limit, limit - 1, -limit, 1 - limit, 0, -1} {
			if e := judge(t, show(moved(v, ring, point, xy, strconv.Itoa(n)))); e == api.ErrRange || e == api.ErrText {
				t.Errorf("a coordinate of %d is %d", n, e)
			}
		}
	})
	for _, id := range []int{1, 2, limit - 1, limit} {
		give(t, "an ID", strings.Replace(example, `"id":1`, `"id":`+strconv.Itoa(id), 1), alone(id, "A", 0, 0, 4, 0, 4, 4, 0, 4))
	}
	low, high := -limit, limit
	for _, p := range []api.Plan{
		alone(api.MaxID, "A", low, low, high, low, high, high, low, high),
		alone(1, "A", low, 0, 0, low, high, 0, 0, high),
		alone(1, "A", high-1, high-1, high, high-1, high, high),
		alone(1, "A", low, low, low+1, low, low, low+1),
	} {
		thereAndBack(t, "at the limits", p)
	}
}

// Rings

// onlyOne is the text of one parcel that has all of the territory, whose ring is written so.
func onlyOne(points api.Value) string {
	return show(replaced(replaced(treeOf(square()), points, "territory", "coordinates", 0), points, "features", 0, "geometry", "coordinates", 0))
}

// Each ring begun at each of its corners, and all at several.
func TestRingsBegunElsewhere(t *testing.T) {
	eachPlan(t, func(what string, p api.Plan) {
		for turn := range len(p.Outer) {
			all := p
			all.Outer = slices.Concat(p.Outer[turn:], p.Outer[:turn])
			give(t, what+", the territory begun elsewhere", textOf(all), p)
			all.Parcels = slices.Clone(p.Parcels)
			for i, one := range all.Parcels {
				by := turn % len(one.Ring)
				all.Parcels[i].Ring = slices.Concat(one.Ring[by:], one.Ring[:by])
			}
			give(t, what+", all begun elsewhere", textOf(all), p)
		}
		for i, one := range p.Parcels {
			for turn := range one.Ring {
				some := copied(p)
				some.Parcels[i].Ring = slices.Concat(one.Ring[turn:], one.Ring[:turn])
				give(t, what+", a ring begun elsewhere", textOf(some), p)
			}
		}
	})
}

// A ring that runs the other way is none, be it one alone or be it all.
func TestRingsTurnedRound(t *testing.T) {
	eachPlan(t, func(what string, p api.Plan) {
		all := copied(p)
		for i := range p.Parcels {
			slices.Reverse(all.Parcels[i].Ring)
			some := copied(p)
			slices.Reverse(some.Parcels[i].Ring[1:])
			refuse(t, what+", a ring turned round", textOf(some), api.ErrRing)
		}
		refuse(t, what+", all parcels turned round", textOf(all), api.ErrRing)
		slices.Reverse(all.Outer)
		refuse(t, what+", all turned round", textOf(all), api.ErrRing)
		all = copied(p)
		slices.Reverse(all.Outer)
		refuse(t, what+", the territory turned round", textOf(all), api.ErrRing)
	})
}

func TestRingsThatAreNotClosed(t *testing.T) {
	eachPlan(t, func(what string, p api.Plan) {
		v := treeOf(p)
		eachCoordinate(v, func(ring []any, point, xy int) {
			last := len(node(&v, ring...).List) - 1
			refuseTree(t, what+", the last point is lacking", changed(v, func(part *api.Value) { part.List = part.List[:last] }, ring...), api.ErrForm)
			refuseTree(t, what+", the first point is lacking", changed(v, func(part *api.Value) { part.List = part.List[1:] }, ring...), api.ErrForm)
			refuseTree(t, what+", another corner is the last one", changed(v, func(part *api.Value) { part.List[last] = part.List[1+point%(last-1)] }, ring...), api.ErrForm)
			for _, n := range []string{"0", "-1", "77", "1000000000", "1073741825", "-99999999999999999999"} {
				if n == node(&v, append(ring, 0, xy)...).Text {
					continue
				}
				refuseTree(t, what+", the last point is elsewhere", changed(v, func(part *api.Value) { *node(part, last, xy) = number(n) }, ring...), api.ErrForm)
				refuseTree(t, what+", the first point is elsewhere", changed(v, func(part *api.Value) { *node(part, 0, xy) = number(n) }, ring...), api.ErrForm)
			}
		})
	})
	for _, r := range []api.Value{
		points(0, 0, 4, 0, 4, 4, 0, 4), points(0, 0, 4, 0, 4, 4, 0, 4, 4, 0), points(0, 0, 4, 0, 4, 4, 0, 4, 0, 1), points(0, 0, 4, 0, 4, 4, 0, 4, 1, 0), points(0, 1, 4, 0, 4, 4, 0, 4, 1, 0), points(1, 2, 4, 0, 4, 4, 0, 4, -1, 2), points(1, 2, 4, 0, 4, 4, 0, 4, 1, -2),
	} {
		refuse(t, "not closed", onlyOne(r), api.ErrForm)
	}
}

// Two points that no int tells apart are two all the same: that is the form's error, and ahead of ErrRange.
func TestFarRingsThatAreNotClosed(t *testing.T) {
	for _, c := range []struct{ first, last string }{
		{"9223372036854775808", "9223372036854775809"}, {"9223372036854775807", "9223372036854775808"}, {"-9223372036854775809", "-9223372036854775810"}, {"-9223372036854775808", "-9223372036854775809"},
		{"18446744073709551616", "0"}, {"18446744073709551617", "1"}, {"0", "18446744073709551616"}, {"1", "-18446744073709551615"}, {"1" + strings.Repeat("0", 400), "1" + strings.Repeat("0", 399) + "1"}, {"1" + strings.Repeat("0", 40), "1" + strings.Repeat("0", 41)},
		{"9007199254740992", "9007199254740993"}, {"1073741825", "1073741826"}, {"1073741825", "-1073741825"}, {"1000000000000000000000", "-1000000000000000000000"},
	} {
		for xy := range 2 {
			spot := func(text string) api.Value {
				p := list(number("0"), number("0"))
				p.List[xy] = number(text)
				return p
			}
			ring := points(0, 0, 4, 0, 4, 4, 0, 4, 0, 0)
			ring.List[0], ring.List[4] = spot(c.first), spot(c.last)
			refuse(t, "far, not closed", onlyOne(ring), api.ErrForm)
			ring.List[4] = spot(c.first)
			if judge(t, onlyOne(ring)) == api.ErrForm {
				t.Errorf("%s twice is not one", c.first)
			}
		}
	}
}

// Lists

// A ring of three points is none, were it closed; of four it is a triangle.
func TestRingsOfFewPoints(t *testing.T) {
	for _, r := range []api.Value{list(), points(0, 0), points(0, 0, 0, 0), points(0, 0, 4, 0), points(0, 0, 4, 0, 0, 0), points(0, 0, 4, 0, 4, 4), points(0, 0, 0, 0, 0, 0)} {
		refuse(t, "few points", onlyOne(r), api.ErrForm)
	}
	give(t, "a triangle", onlyOne(points(0, 0, 4, 0, 4, 4, 0, 0)), alone(1, "A", 0, 0, 4, 0, 4, 4))
	for _, r := range []api.Value{points(0, 0, 4, 0, 0, 0, 0, 0), points(0, 0, 0, 0, 0, 0, 0, 0), points(0, 0, 1, 1, 2, 2, 0, 0), points(0, 0, 4, 4, 4, 0, 0, 0)} {
		refuse(t, "four points, no ring", onlyOne(r), api.ErrRing)
	}
}

// Points have two numbers, coordinates one ring, and a whole as many features as there are parcels.
func TestListsOfOtherLengths(t *testing.T) {
	v := treeOf(halves())
	eachNode(v, func(steps ...any) {
		part := *node(&v, steps...)
		inFeatures := len(steps) == 1 && steps[0] == "features"
		if part.Kind != api.JList || inFeatures {
			return
		}
		refuseTree(t, "an empty list", replaced(v, list(), steps...), api.ErrForm)
		if len(part.List) > 2 {
			return
		}
		refuseTree(t, "one item less", replaced(v, list(part.List[1:]...), steps...), api.ErrForm)
		for _, more := range []api.Value{part.List[0], null(), number("0"), list(), points(1, 1, 2, 1, 2, 2, 1, 1)} {
			refuseTree(t, "one item more ahead", replaced(v, list(append([]api.Value{more}, part.List...)...), steps...), api.ErrForm)
			refuseTree(t, "one item more behind", replaced(v, list(append(slices.Clone(part.List), more)...), steps...), api.ErrForm)
		}
	})
	hole := replaced(treeOf(square()), list(points(0, 0, 4, 0, 4, 4, 0, 4, 0, 0), points(1, 1, 1, 2, 2, 2, 2, 1, 1, 1)), "territory", "coordinates")
	refuseTree(t, "a hole", hole, api.ErrForm)
}

// Any number of features is a whole; that they are no plan comes last.
func TestFeaturesOfAnyNumber(t *testing.T) {
	v := treeOf(halves())
	refuseTree(t, "no features", replaced(v, list(), "features"), api.ErrForm)
	refuseTree(t, "no features, a territory that is beyond", moved(replaced(v, list(), "features"), []any{"territory", "coordinates", 0}, 1, 0, "1073741825"), api.ErrRange)
	refuseTree(t, "no features, a territory turned round", changed(replaced(v, list(), "features"), func(part *api.Value) { slices.Reverse(part.List) }, "territory", "coordinates", 0), api.ErrRing)
	many := changed(v, func(part *api.Value) {
		first := part.List[0]
		for id := range 500 {
			part.List = append(part.List, replaced(first, number(strconv.Itoa(id+3)), "id"))
		}
	}, "features")
	refuseTree(t, "very many features", many, api.ErrForm)
	refuseTree(t, "very many features, one twice", replaced(many, number("300"), "features", 99, "id"), api.ErrThere)
	refuseTree(t, "very many features, the last one beyond", replaced(many, number("0"), "features", 501, "id"), api.ErrRange)
	for _, p := range []api.Plan{slab(13, 5), slab(30, 10)} {
		refuse(t, "more than MaxParcels", textOf(p), api.ErrForm)
	}
	p := slab(16, 4)
	give(t, "MaxParcels", textOf(p), p)
	for _, more := range []api.Parcel{parcel(65, "A", 20, 0, 21, 0, 20, 1), parcel(65, "A", 0, 0, 1, 0, 1, 1, 0, 1), parcel(65, "A", 3, 1, 4, 1, 4, 2, 3, 2), parcel(65, "A", 15, 3, 16, 3, 16, 4, 15, 4)} {
		refuse(t, "MaxParcels, and one more behind", textOf(lay(p.Outer, append(slices.Clone(p.Parcels), more)...)), api.ErrForm)
		refuse(t, "MaxParcels, and one more ahead", textOf(lay(p.Outer, append([]api.Parcel{more}, p.Parcels...)...)), api.ErrForm)
	}
}

// More than MaxPoints corners, be it one or very many, are no sound ring.
func TestRingsOfManyPoints(t *testing.T) {
	for _, many := range []int{api.MaxPoints, api.MaxPoints + 1, api.MaxPoints + 2, 256, 1000, 5000} {
		r := comb(many/2*2, -50, -60, 1, 70)
		if many%2 == 1 {
			r = append(r, at(r[0].X, r[0].Y+1))
		}
		p := lay(r, api.Parcel{ID: 1, Ring: r, Owner: "A"})
		if len(r) != many {
			t.Fatalf("a comb of %d corners", len(r))
		}
		if many <= api.MaxPoints {
			give(t, "as many as may be", textOf(p), p)
			continue
		}
		refuse(t, "too many points", textOf(p), api.ErrRing)
		refuse(t, "too many points of the territory", textOf(lay(r, square().Parcels...)), api.ErrRing)
		refuse(t, "too many points of a parcel", textOf(lay(square().Outer, p.Parcels...)), api.ErrRing)
	}
}
