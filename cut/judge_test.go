package cut_test

import (
	"cmp"
	"fmt"
	"slices"
	"testing"

	"merestone/api"
	"merestone/cut"
	"merestone/geo"
	"merestone/plan"
	"merestone/ring"
)

// A deed is a split that is asked for.
type deed struct {
	plan  api.Plan
	id    int
	path  api.Ring
	fresh int
}

// String leaves out most of a large plan.
func (d deed) String() string {
	return fmt.Sprintf("Split of %.400s, %d, %.400s, %d", fmt.Sprint(d.plan), d.id, fmt.Sprint(d.path), d.fresh)
}

func (d deed) ends() (first, last api.Point) {
	return d.path[0], d.path[len(d.path)-1]
}

func (d deed) border() api.Ring {
	return d.plan.Parcels[slices.IndexFunc(d.plan.Parcels, func(p api.Parcel) bool { return p.ID == d.id })].Ring
}

func edges(r api.Ring) []api.Edge {
	var list []api.Edge
	for i, a := range r {
		list = append(list, api.Edge{A: a, B: r[(i+1)%len(r)]})
	}
	return list
}

// steps are the stretches of a path: the edges without the one from its end to its beginning.
func steps(path api.Ring) []api.Edge {
	list := edges(path)
	return list[:len(list)-1]
}

func lies(e api.Edge, p api.Point) bool {
	on, _ := geo.On(e.A, e.B, p)
	return on
}

func common(one, other api.Edge) int {
	n, _ := geo.Meet(one.A, one.B, other.A, other.B)
	return n
}

// spans answers whether both ends are points of the parcel's border, and two.
func (d deed) spans() bool {
	first, last := d.ends()
	on := func(p api.Point) bool {
		return slices.ContainsFunc(edges(d.border()), func(e api.Edge) bool { return lies(e, p) })
	}
	return first != last && on(first) && on(last)
}

// cuts answers whether the path comes to no point twice and has, but for its ends, no point outside the parcel or on its border: just then it parts the land in two. It does not look at how many corners there are.
func (d deed) cuts() bool {
	return d.simple() && d.apart() && d.within()
}

func (d deed) simple() bool {
	list := steps(d.path)
	for i, one := range list {
		for j, other := range list[:i] {
			if n := common(one, other); j < i-1 && n != 0 || j == i-1 && n != 1 {
				return false
			}
		}
		if one.A == one.B {
			return false
		}
	}
	return true
}

// apart: what a stretch may have in common with an edge is one point, the path's end.
func (d deed) apart() bool {
	first, last := d.ends()
	list := steps(d.path)
	for i, one := range list {
		for _, e := range edges(d.border()) {
			ended := i == 0 && lies(e, first) || i == len(list)-1 && lies(e, last)
			if n := common(one, e); n > 1 || n == 1 && !ended {
				return false
			}
		}
	}
	return true
}

// within looks at the middle of each stretch, as none of them goes through the border; both are drawn out to twice their size, if they are not too far out for that.
func (d deed) within() bool {
	if !slices.ContainsFunc(slices.Concat(d.border(), d.path), func(p api.Point) bool { return !geo.Good(at(2*p.X, 2*p.Y)) }) {
		double := slices.Clone(d.border())
		for i, p := range double {
			double[i] = at(2*p.X, 2*p.Y)
		}
		return !slices.ContainsFunc(steps(d.path), func(e api.Edge) bool {
			side, _ := ring.Side(double, at(e.A.X+e.B.X, e.A.Y+e.B.Y))
			return side != 1
		})
	}
	return !slices.ContainsFunc(steps(d.path), func(e api.Edge) bool {
		in, _, _ := plan.Cover(d.plan, e.A.X+e.B.X, e.A.Y+e.B.Y, 2)
		return !slices.Equal(in, []int{d.id})
	})
}

// marked answers r with the path's ends as corners, if they lie on an edge between its ends, by how far behind the corner ahead of them they come.
func (d deed) marked(r api.Ring) api.Ring {
	first, last := d.ends()
	var list api.Ring
	for _, e := range edges(r) {
		list = append(list, e.A)
		var within api.Ring
		for _, p := range []api.Point{first, last} {
			if lies(e, p) && p != e.A && p != e.B {
				within = append(within, p)
			}
		}
		slices.SortFunc(within, func(p, q api.Point) int { return cmp.Compare(far(e.A, p), far(e.A, q)) })
		list = append(list, within...)
	}
	return list
}

func far(a, b api.Point) int {
	return max(a.X-b.X, b.X-a.X) + max(a.Y-b.Y, b.Y-a.Y)
}

func sortedEdges(list ...api.Edge) []api.Edge {
	slices.SortFunc(list, func(a, b api.Edge) int {
		return cmp.Or(cmp.Compare(a.A.X, b.A.X), cmp.Compare(a.A.Y, b.A.Y), cmp.Compare(a.B.X, b.B.X), cmp.Compare(a.B.Y, b.B.Y))
	})
	return list
}

// holds answers what of the chapter's words does not hold of the plan that is answered; nothing, if all do. Rings that are sound and begin at their least corners are what their edges make them: it looks at those.
func (d deed) holds(got api.Plan) string {
	if plan.Check(got) != api.OK {
		return "is not sound"
	}
	if !slices.Equal(got.Outer, d.marked(d.plan.Outer)) {
		return "has another Outer"
	}
	if len(got.Parcels) != len(d.plan.Parcels)+1 {
		return "has too many parcels, or too few"
	}
	byID := map[int]api.Parcel{}
	for _, parcel := range got.Parcels {
		byID[parcel.ID] = parcel
	}
	for _, was := range d.plan.Parcels {
		is, there := byID[was.ID]
		switch {
		case !there || is.Owner != was.Owner:
			return "lacks a parcel, or has it with another owner"
		case was.ID == d.id && byID[d.fresh].Owner != was.Owner:
			return "has another owner of fresh"
		case was.ID != d.id && !slices.Equal(is.Ring, d.marked(was.Ring)):
			return "has a parcel beside it otherwise"
		}
	}
	return d.parted(byID[d.fresh].Ring, byID[d.id].Ring)
}

// parted looks at the edges of both parts: together they have the old ones, and the path's both ways round.
func (d deed) parted(fresh, kept api.Ring) string {
	left, right := steps(d.path), steps(ring.Turned(d.path))
	for i := range left {
		if !slices.Contains(edges(fresh), left[i]) || !slices.Contains(edges(kept), right[i]) {
			return "has fresh not to the left of the path, or the rest not to the right"
		}
	}
	was := slices.Concat(edges(d.marked(d.border())), left, right)
	if !slices.Equal(sortedEdges(was...), sortedEdges(slices.Concat(edges(fresh), edges(kept))...)) {
		return "has other edges"
	}
	return ""
}

// judge holds a split of a sound plan, whose IDs are as they must be, against what the deed itself tells; corners and parcels must not be too many.
func judge(t *testing.T, d deed) (api.Plan, bool) {
	t.Helper()
	got, e := cut.Split(d.plan, d.id, d.path, d.fresh)
	want := api.OK
	if !d.spans() {
		want = api.ErrSide
	} else if !d.cuts() {
		want = api.ErrCross
	}
	switch {
	case e != want || e != api.OK && !equal(got, api.Plan{}):
		t.Fatalf("%v: %v, error %d, want %d", d, got, e, want)
	case e == api.OK && d.holds(got) != "":
		t.Fatalf("%v: %v %s", d, got, d.holds(got))
	}
	return got, e == api.OK
}

// done is judge for a split that nothing keeps from being done.
func done(t *testing.T, d deed) api.Plan {
	t.Helper()
	got, ok := judge(t, d)
	if !ok {
		t.Fatalf("%v is not done", d)
	}
	return got
}
