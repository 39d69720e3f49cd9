package bend_test

import (
	"slices"
	"testing"

	"merestone/api"
	"merestone/plan"
)

// Limits

// strips is a plan of upright strips, side by side; borders tells how many edges each upright border has, the territory's two among them.
func strips(t *testing.T, borders ...int) api.Plan {
	t.Helper()
	p := uneven(borders...)
	if plan.Check(p) != api.OK {
		t.Fatalf("strips %v are not sound", borders)
	}
	return p
}

func uneven(borders ...int) api.Plan {
	border := func(i int) api.Ring {
		var r api.Ring
		for y := range borders[i] {
			r = append(r, at(4*i+y%2, y))
		}
		return append(r, at(4*i, 1000))
	}
	downward := func(i int) api.Ring {
		r := border(i)
		slices.Reverse(r)
		return r
	}
	var p api.Plan
	last := len(borders) - 1
	for i := range last {
		p.Parcels = append(p.Parcels, api.Parcel{ID: i + 1, Ring: least(slices.Concat(border(i+1), downward(i))), Owner: "Ann"})
		p.Outer = append(p.Outer, at(4*i, 0))
	}
	p.Outer = append(p.Outer, border(last)...)
	for i := last - 1; i > 0; i-- {
		p.Outer = append(p.Outer, at(4*i, 1000))
	}
	left := downward(0)
	p.Outer = least(append(p.Outer, left[:len(left)-1]...))
	return p
}

func longest(p api.Plan) int {
	most := 0
	for _, r := range rings(p) {
		most = max(most, len(r))
	}
	return most
}

// Where a ring has MaxPoints corners, be it one alone of those that have the edge, there is no room for one more; where it has one less, there is.
func TestRingsAsLongAsMayBe(t *testing.T) {
	for _, c := range []struct {
		name       string
		room, full []int
		at         api.Point
	}{
		{"the one to the left", []int{1, 62, 63, 1}, []int{1, 63, 63, 1}, at(8, 500)},
		{"the one to the right", []int{1, 63, 62, 1}, []int{1, 63, 63, 1}, at(4, 500)},
		{"both", []int{1, 62, 63, 62, 1}, []int{1, 63, 63, 63, 1}, at(8, 500)},
		{"one at the territory's lower edge", []int{1, 62, 63, 1}, []int{1, 63, 63, 1}, at(5, 0)},
		{"one at the territory's upper edge", []int{1, 62, 63, 1}, []int{1, 63, 63, 1}, at(7, 1000)},
		{"the territory alone", []int{61, 1, 62}, []int{61, 1, 63}, at(1, 0)},
		{"the territory alone, beside the last one", []int{61, 1, 62}, []int{61, 1, 63}, at(6, 1000)},
		{"the territory alone, at its last edge", []int{61, 1, 62}, []int{61, 1, 63}, at(0, 500)},
		{"the only one", []int{62, 63}, []int{63, 63}, at(2, 0)},
	} {
		room, full := strips(t, c.room...), strips(t, c.full...)
		if longest(room) != api.MaxPoints-1 || longest(full) != api.MaxPoints {
			t.Fatalf("%s: %d and %d corners", c.name, longest(room), longest(full))
		}
		more := done(t, marking(room, c.at))
		if longest(more) != api.MaxPoints {
			t.Errorf("%s: %d corners", c.name, longest(more))
		}
		give(t, c.name, clearing(more, c.at), room)
		refuse(t, c.name, marking(full, c.at), api.ErrCross)
		judge(t, marking(full, c.at))
	}
	full := strips(t, 1, 63, 63, 1)
	done(t, moving(full, at(5, 1), at(6, 1)))
	done(t, marking(full, at(1, 0)))
	done(t, marking(full, at(11, 1000)))
}

// MaxCorners corners, and two more, as each edge is there twice.
func TestAsManyCornersAsThereMayBe(t *testing.T) {
	room := strips(t, 1, 61, 61, 62, 61, 62, 61, 62, 61, 1)
	if corners(room) != api.MaxCorners-2 {
		t.Fatalf("%d corners", corners(room))
	}
	points := of(4, 500, 8, 500, 16, 500, 1, 0, 2, 0, 35, 1000, 0, 500, 36, 500)
	for _, one := range points {
		full := done(t, marking(room, one))
		if corners(full) != api.MaxCorners {
			t.Fatalf("%d corners", corners(full))
		}
		for _, other := range points {
			if other != one {
				refuse(t, "no room", marking(full, other), api.ErrCross)
			}
		}
		give(t, "as many as may be", clearing(full, one), room)
		done(t, moving(full, at(5, 1), at(6, 1)))
		judge(t, moving(full, at(5, 1), at(8, 500)))
	}
}

// At the ends of what is Good: no point is one to spare.
func TestAtTheLimits(t *testing.T) {
	low, high := -limit, limit
	outer := of(low, low, 0, low, high, low, high, 0, high, high, 0, high, low, high, low, 0)
	quarters := func(x, y int) api.Plan {
		return each(lay(outer,
			parcel(1, "Ann", low, low, 0, low, x, y, low, 0), parcel(2, "Bob", 0, low, high, low, high, 0, x, y),
			parcel(3, "Cid", low, 0, x, y, 0, high, low, high), parcel(api.MaxID, "Dee", x, y, high, 0, high, high, 0, high)), slices.Clone)
	}
	p := quarters(0, 0)
	for _, to := range of(high-1, 0, low+1, 0, 0, high-1, 0, low+1, low+1, low+1, high-1, high-1, high-1, low+1, 1, 1, limit/2, limit/2-1, -limit/2, -limit/2) {
		give(t, "within", moving(p, at(0, 0), to), quarters(to.X, to.Y))
		give(t, "back", moving(quarters(to.X, to.Y), to, at(0, 0)), p)
		judge(t, moving(p, at(0, 0), to))
	}
	for _, to := range of(low, low+1, high, high-1, 1, high, -1, low) {
		refuse(t, "at the border", moving(p, at(0, 0), to), api.ErrCross)
		judge(t, moving(p, at(0, 0), to))
	}
	for _, to := range of(low, low, high, high, 0, high, low, 0) {
		refuse(t, "to the territory's corner", moving(p, at(0, 0), to), api.ErrThere)
	}
	for _, at := range of(low, low+1, low, -1, high, high-1, high-1, high, 1, low, 0, low+1, high-1, 0, 1, 0) {
		more := done(t, marking(p, at))
		give(t, "Clear", clearing(more, at), p)
	}
}

// The points (0, -1) and (-1, -2) are to the left and to the right of the edge from a corner of all that is Good to nearly the other, but so near to it that numbers of 53 bits have them on it.
func TestBesideALongEdge(t *testing.T) {
	low, high := -limit, limit
	outer := of(low, low, high, low, high-1, high-3, low, high)
	below := parcel(1, "Ann", low, low, high, low, high-1, high-3)
	plain := lay(outer, below, parcel(3, "Cid", low, low, high-1, high-3, low, high))
	sliver := lay(outer, below, parcel(2, "Bob", low, low, high-1, high-3, 0, -1), parcel(3, "Cid", low, low, 0, -1, high-1, high-3, low, high))
	curved := lay(outer, parcel(1, "Ann", low, low, high, low, high-1, high-3, 0, -1), parcel(3, "Cid", low, low, 0, -1, high-1, high-3, low, high))
	for _, off := range of(0, -1, -1, -2) {
		refuse(t, "beside an edge", marking(plain, off), api.ErrSide)
	}
	refuse(t, "nearly in line", clearing(curved, at(0, -1)), api.ErrSide)
	refuse(t, "nearly in line, with a sliver beside", clearing(sliver, at(0, -1)), api.ErrSide)
	refuse(t, "to the other side", moving(sliver, at(0, -1), at(-1, -2)), api.ErrCross)
	give(t, "to the other side", moving(curved, at(0, -1), at(-1, -2)),
		lay(outer, parcel(1, "Ann", low, low, high, low, high-1, high-3, -1, -2), parcel(3, "Cid", low, low, -1, -2, high-1, high-3, low, high)))
}

// R4 and R5

func spoilRing(r api.Ring) {
	for i := range r[:cap(r)] {
		r[:cap(r)][i] = at(-77, -77)
	}
}

func spoil(p api.Plan) {
	spoilRing(p.Outer)
	all := p.Parcels[:cap(p.Parcels)]
	for i := range all {
		spoilRing(all[i].Ring)
		all[i] = api.Parcel{ID: -77, Owner: "spoilt"}
	}
}

// roomy answers a list with spare room, and all that it has room for.
func roomy[T any](list []T, spare ...T) (roomy, whole []T) {
	whole = slices.Concat(list, spare)
	return whole[:len(list):len(whole)], whole
}

// same asks the same twice, of lists with spare room, spoils the first answer, and then looks whether the arguments and the second answer are what they were.
func same(t *testing.T, c named) {
	t.Helper()
	var whole []api.Ring
	keep := func(r api.Ring) api.Ring {
		list, all := roomy(r, of(7, 7, 8, 8, 9, 9)...)
		whole = append(whole, all)
		return list
	}
	p := lay(keep(c.plan.Outer))
	for _, parcel := range c.plan.Parcels {
		parcel.Ring = keep(parcel.Ring)
		p.Parcels = append(p.Parcels, parcel)
	}
	parcels, all := roomy(p.Parcels, parcel(1, "spare", 1, 1), parcel(99, "spare", 2, 2))
	p.Parcels = parcels
	was, wereAll := slices.Clone(whole), copied(lay(nil, all...))
	for i, r := range was {
		was[i] = slices.Clone(r)
	}
	d := deed{c.kind, p, c.at, c.to}
	one, _ := d.do()
	two, _ := d.do()
	spoil(one)
	if !slices.EqualFunc(whole, was, slices.Equal[api.Ring]) || !equal(lay(nil, all...), wereAll) {
		t.Errorf("%s: what was handed in is otherwise now", c.name)
	}
	for _, r := range whole {
		spoilRing(r)
	}
	spoil(p)
	if !equal(two, c.want) {
		t.Errorf("%s: what was answered became %v", c.name, two)
	}
}

// allDeeds are those that are done, and those that are refused.
func allDeeds() []named {
	list := slices.Concat(moves(), marks(), clears())
	for _, c := range refusals() {
		list = append(list, named{name: c.name, deed: c.deed})
	}
	return list
}

func TestMemoryIsNotShared(t *testing.T) {
	for _, c := range allDeeds() {
		same(t, c)
	}
	for name, p := range unsound() {
		for _, d := range []deed{moving(p, at(2, 2), at(3, 2)), marking(p, at(2, 1)), clearing(p, at(2, 2))} {
			same(t, named{name: name, deed: d})
		}
	}
}

// No two lists of one answer share memory, not even spare room.
func TestListsOfOneAnswer(t *testing.T) {
	for _, c := range slices.Concat(moves(), marks(), clears()) {
		got, _ := c.do()
		list := rings(got)
		for i, r := range list {
			for k := range r[:cap(r)] {
				r[:cap(r)][k] = at(i, i)
			}
		}
		for i, r := range list {
			if slices.ContainsFunc(r[:cap(r)], func(p api.Point) bool { return p != at(i, i) }) {
				t.Errorf("%s: ring %d shares its memory", c.name, i)
			}
		}
	}
}

// The same calls have the same answers, in whatever order they come.
func TestNothingIsKept(t *testing.T) {
	list := allDeeds()
	slices.Reverse(list)
	for _, c := range slices.Concat(list, list) {
		if got, e := c.do(); !equal(got, c.want) || (e == api.OK) != (len(c.want.Parcels) > 0) {
			t.Errorf("%s: %v, error %d, want %v", c.name, got, e, c.want)
		}
	}
}
