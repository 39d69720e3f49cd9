package query_test

import (
	"slices"
	"testing"

	"merestone/api"
)

// A place is a point or a window of a named plan, and the parcels there.
type place struct {
	name string
	plan api.Plan
	at   api.Window
	want []int
}

func spot(name string, p api.Plan, x, y int, want ...int) place {
	return place{name, p, box(x, y, x, y), want}
}

func spots() []place {
	other := numbered(crossroads(), 100, 9, 10, api.MaxID)
	wheel := numbered(star(), 77, 1, 78, api.MaxID, 2, 11)
	return []place{
		// Within one.
		spot("the only one", square(), 2, 2, 5),
		spot("to the right", halves(), 3, 2, 1),
		spot("to the left", halves(), 1, 2, 2),
		spot("the middle one", bands(), 3, 1, 7),
		spot("the first of four", crossroads(), 1, 1, 2),
		spot("the last of four", crossroads(), 3, 3, 8),
		spot("between two others", gate(), 4, 2, 3),
		spot("in a bay of another one", island(), 4, 6, 4),
		spot("below a bay", island(), 4, 2, 2),
		spot("beside a line that slants", slant(), 5, 4, 1),
		spot("on that line's other side", slant(), 4, 5, 2),
		// On an edge that two have in common.
		spot("an edge of two", halves(), 2, 2, 1, 2),
		spot("an edge of two, of three", bands(), 4, 3, 7, 8),
		spot("another edge of two, of three", bands(), 2, 3, 3, 7),
		spot("an edge of two, of four", crossroads(), 1, 2, 2, 6),
		spot("an edge of two that slants", star(), 1, 1, 1, 6),
		spot("an edge from corner to corner", slant(), 3, 3, 1, 2),
		spot("an edge of the outer two", gate(), 4, 4, 1, 2),
		// At a corner.
		spot("a corner of one", slant(), 8, 0, 1),
		spot("a corner of two on the territory's border", halves(), 2, 4, 1, 2),
		spot("a corner of two", zigzag(), 4, 3, 4, 9),
		spot("a corner of two, with another one near", gate(), 3, 2, 1, 3),
		spot("a corner of three", three(), 2, 2, 2, 4, 6),
		spot("a corner of three, that touch there", gate(), 4, 3, 1, 2, 3),
		spot("a corner of four", crossroads(), 2, 2, 2, 4, 6, 8),
		spot("a corner of four, of all kinds", corner(), 4, 2, 1, 2, 3, 4),
		spot("a corner of six", star(), 2, 2, 1, 2, 3, 4, 5, 6),
		// On the territory's border, and at its corners.
		spot("the border of the only one", square(), 0, 2, 5),
		spot("the lower border", halves(), 3, 0, 1),
		spot("the upper border", halves(), 1, 4, 2),
		spot("the left border", halves(), 0, 3, 2),
		spot("the right border", halves(), 4, 1, 1),
		spot("the lower left corner", halves(), 0, 0, 2),
		spot("the upper right corner", halves(), 4, 4, 1),
		spot("a corner on a straight line", bands(), 4, 0, 7, 8),
		spot("the border of a notch", vee(), 3, 6, 2),
		spot("the corner of a notch", vee(), 4, 4, 2),
		spot("the corner beside a notch", vee(), 2, 8, 1, 2),
		spot("a corner of the territory that two have", star(), 4, 4, 3, 4),
		// Outside.
		spot("to the right of all", halves(), 5, 2),
		spot("to the left of all", halves(), -1, 2),
		spot("below all", halves(), 2, -1),
		spot("above all", halves(), 2, 5),
		spot("beyond a corner", halves(), 5, 5),
		spot("in line with an edge", halves(), 4, 5),
		spot("in a notch", vee(), 4, 6),
		spot("at a notch's level", vee(), 4, 8),
		// By rising ID.
		spot("a corner of four, other IDs", other, 2, 2, 9, 10, 100, api.MaxID),
		spot("an edge, the higher ID to the left", other, 2, 1, 9, 100),
		spot("an edge, the higher ID below", other, 1, 2, 10, 100),
		spot("an edge, the lower ID below", other, 3, 2, 9, api.MaxID),
		spot("a corner of six, other IDs", wheel, 2, 2, 1, 2, 11, 77, 78, api.MaxID),
	}
}

func TestLocate(t *testing.T) {
	for _, c := range spots() {
		for _, v := range views() {
			what := c.name + ", " + v.name
			p, one := v.plan(c.plan), v.to(c.at.Low)
			// A point outside may be laid where no point is Good.
			if slices.Max([]int{one.X, one.Y, -one.X, -one.Y}) > limit {
				refuseLocate(t, what, made(t, what, p), one, api.ErrRange)
				continue
			}
			giveLocate(t, what, made(t, what, p), one, c.want)
			if reckoned := expectedLocate(p, one); !slices.Equal(reckoned, c.want) {
				t.Errorf("%s: %v is reckoned, %v written out", what, reckoned, c.want)
			}
		}
	}
}

// Whichever of four has which ID, they are told by rising ID.
func TestOrderOfLocate(t *testing.T) {
	list := ids(3, 4, 20, 100)
	eachOrder(list, func(order []int) {
		x := made(t, "crossroads", numbered(crossroads(), order...))
		giveLocate(t, "crossroads", x, at(2, 2), list)
		for i, p := range of(1, 1, 3, 1, 1, 3, 3, 3) {
			giveLocate(t, "crossroads", x, p, order[i:i+1])
		}
		giveLocate(t, "crossroads", x, at(2, 1), ids(min(order[0], order[1]), max(order[0], order[1])))
		giveLocate(t, "crossroads", x, at(3, 2), ids(min(order[1], order[3]), max(order[1], order[3])))
		giveWindow(t, "crossroads", x, box(1, 1, 3, 3), list)
		giveWindow(t, "crossroads", x, box(1, 1, 1, 3), ids(min(order[0], order[2]), max(order[0], order[2])))
	})
}

// eachOrder looks at all orders of a list.
func eachOrder(list []int, look func([]int)) {
	var grow func(begun, left []int)
	grow = func(begun, left []int) {
		if len(left) == 0 {
			look(begun)
		}
		for i := range left {
			grow(slices.Concat(begun, left[i:i+1]), slices.Concat(left[:i], left[i+1:]))
		}
	}
	grow(nil, list)
}

// Each coordinate alone beyond each limit, and both.
func TestLocateBeyondTheLimits(t *testing.T) {
	for name, p := range all() {
		x := made(t, name, p)
		for _, n := range beyond() {
			for _, other := range []int{0, 2, limit, -limit, n, -n} {
				refuseLocate(t, name, x, at(n, other), api.ErrRange)
				refuseLocate(t, name, x, at(other, n), api.ErrRange)
			}
		}
		for _, p := range of(limit, limit, -limit, -limit, limit, -limit, -limit, limit, 0, limit, -limit, 2) {
			giveLocate(t, name, x, p, nil)
		}
	}
}

// At the limits there may be land.
func TestLocateAtTheLimits(t *testing.T) {
	plane := block(at(-limit, -limit), limit, 2, 2)
	x := made(t, "all the plane", mustPlan(t, plane))
	giveLocate(t, "all the plane", x, at(limit, limit), ids(4))
	giveLocate(t, "all the plane", x, at(-limit, -limit), ids(1))
	giveLocate(t, "all the plane", x, at(limit, -limit), ids(3))
	giveLocate(t, "all the plane", x, at(-limit, limit), ids(2))
	giveLocate(t, "all the plane", x, at(0, limit), ids(2, 4))
	giveLocate(t, "all the plane", x, at(0, 0), ids(1, 2, 3, 4))
	giveLocate(t, "all the plane", x, at(-1, 1), ids(2))
	giveLocate(t, "all the plane", x, at(1, -1), ids(3))
	for _, n := range beyond() {
		refuseLocate(t, "all the plane", x, at(n, 0), api.ErrRange)
		refuseLocate(t, "all the plane", x, at(0, n), api.ErrRange)
	}
}

// Points beside a line from end to end of the plane, so near to it that numbers of 53 bits have them on it.
func TestLocateBesideALongEdge(t *testing.T) {
	low, high := -limit, limit
	x := made(t, "a long edge", lay(of(low, low, high, low, high-1, high-3, low, high),
		parcel(1, low, low, high, low, high-1, high-3), parcel(2, low, low, high-1, high-3, low, high)))
	giveLocate(t, "a long edge", x, at(0, -1), ids(2))
	giveLocate(t, "a long edge", x, at(-1, -2), ids(1))
	giveLocate(t, "a long edge", x, at(low, low), ids(1, 2))
	giveLocate(t, "a long edge", x, at(high-1, high-3), ids(1, 2))
	giveWindow(t, "a long edge", x, box(0, -1, 0, -1), ids(2))
	giveWindow(t, "a long edge", x, box(-1, -2, -1, -2), ids(1))
	giveWindow(t, "a long edge", x, box(-1, -2, 0, -1), ids(1, 2))
}

// All points around all plans in all views, and all windows between some of them.
func TestAllPlansInAllViews(t *testing.T) {
	for name, p := range all() {
		t.Run(name, func(t *testing.T) {
			t.Parallel()
			for _, v := range views() {
				seen := v.plan(p)
				judge(t, name+", "+v.name, seen, around(seen), between(seen))
			}
		})
	}
}

// around are a plan's corners and the middles of its edges, with all points beside them, and points amid.
func around(p api.Plan) []api.Point {
	once := map[api.Point]int{}
	add := func(p api.Point) {
		for dx := -1; dx <= 1; dx++ {
			for dy := -1; dy <= 1; dy++ {
				if x, y := p.X+dx, p.Y+dy; max(x, y, -x, -y) <= limit {
					once[at(x, y)]++
				}
			}
		}
	}
	var list []api.Point
	for _, parcel := range p.Parcels {
		for _, e := range edgesOf(parcel.Ring) {
			add(e.A)
			add(at((e.A.X+e.B.X)/2, (e.A.Y+e.B.Y)/2))
			next := parcel.Ring[0]
			add(at((e.A.X+e.B.X+next.X)/3, (e.A.Y+e.B.Y+next.Y)/3))
		}
	}
	for p := range once {
		list = append(list, p)
	}
	return list
}

// between are windows between a plan's corners, and beside them.
func between(p api.Plan) []api.Window {
	var xs, ys []int
	for i, corner := range p.Outer {
		xs, ys = append(xs, corner.X, corner.X+i%3-1), append(ys, corner.Y, corner.Y+(i+1)%3-1)
	}
	for i, parcel := range p.Parcels {
		middle := parcel.Ring[len(parcel.Ring)/2]
		xs, ys = append(xs, middle.X, (middle.X+p.Outer[0].X)/2+i%2), append(ys, middle.Y, (middle.Y+p.Outer[0].Y)/2)
	}
	xs, ys = good(xs...), good(ys...)
	return windowsOf(xs, ys, 1+len(xs)*len(xs)*len(ys)*len(ys)/1200)
}
