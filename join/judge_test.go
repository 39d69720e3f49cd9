package join_test

import (
	"cmp"
	"fmt"
	"slices"
	"testing"

	"merestone/api"
	"merestone/geo"
	"merestone/join"
	"merestone/plan"
)

// A deed is a merge that is asked for.
type deed struct {
	plan        api.Plan
	into, other int
}

// String leaves out most of a large plan.
func (d deed) String() string {
	return fmt.Sprintf("Merge of %.600s, %d, %d", fmt.Sprint(d.plan), d.into, d.other)
}

func (d deed) turned() deed {
	return deed{d.plan, d.other, d.into}
}

func merge(d deed) (api.Plan, api.Errno) {
	return join.Merge(d.plan, d.into, d.other)
}

func ringOf(p api.Plan, id int) api.Ring {
	return p.Parcels[slices.IndexFunc(p.Parcels, func(parcel api.Parcel) bool { return parcel.ID == id })].Ring
}

func edges(r api.Ring) []api.Edge {
	var list []api.Edge
	for i, a := range r {
		list = append(list, api.Edge{A: a, B: r[(i+1)%len(r)]})
	}
	return list
}

// alone are the edges of one that other does not have the other way round.
func alone(one, other api.Ring) []api.Edge {
	return slices.DeleteFunc(edges(one), func(e api.Edge) bool {
		return slices.Contains(edges(other), api.Edge{A: e.B, B: e.A})
	})
}

func sortedEdges(list ...api.Edge) []api.Edge {
	slices.SortFunc(list, func(a, b api.Edge) int {
		return cmp.Or(cmp.Compare(a.A.X, b.A.X), cmp.Compare(a.A.Y, b.A.Y), cmp.Compare(a.B.X, b.B.X), cmp.Compare(a.B.Y, b.B.Y))
	})
	return list
}

// common answers how many corners and how many edges both parcels have.
func (d deed) common() (corners, stretches int) {
	one, other := ringOf(d.plan, d.into), ringOf(d.plan, d.other)
	for _, p := range one {
		if slices.Contains(other, p) {
			corners++
		}
	}
	return corners, len(one) - len(alone(one, other))
}

// fault tells the error of a merge of two parcels of a sound plan without going along any border: what both have in common is points and lines of edges, each of which has one corner more than edges. Just if it is one piece, the way around both is closed, and comes to no point twice.
func (d deed) fault() api.Errno {
	corners, stretches := d.common()
	left := len(ringOf(d.plan, d.into)) + len(ringOf(d.plan, d.other)) - 2*stretches
	switch {
	case stretches == 0:
		return api.ErrSide
	case corners-stretches > 1:
		return api.ErrHole
	case left > api.MaxPoints:
		return api.ErrCross
	}
	return api.OK
}

// holds answers what of the chapter's words does not hold of the plan that is answered; nothing, if all do. A ring that is sound and begins at its least corner is what its edges make it: it looks at those.
func (d deed) holds(got api.Plan) string {
	if plan.Check(got) != api.OK {
		return "is not sound"
	}
	if !slices.Equal(got.Outer, d.plan.Outer) {
		return "has another Outer"
	}
	if len(got.Parcels) != len(d.plan.Parcels)-1 {
		return "has too many parcels, or too few"
	}
	left := slices.Clone(got.Parcels)
	for _, was := range d.plan.Parcels {
		if was.ID == d.other {
			continue
		}
		is := left[0]
		left = left[1:]
		switch {
		case is.ID != was.ID || is.Owner != was.Owner:
			return "has another parcel, or it with another owner"
		case is.ID != d.into && !slices.Equal(is.Ring, was.Ring):
			return "has a parcel beside it otherwise"
		}
	}
	one, other := ringOf(d.plan, d.into), ringOf(d.plan, d.other)
	if !slices.Equal(sortedEdges(edges(ringOf(got, d.into))...), sortedEdges(slices.Concat(alone(one, other), alone(other, one))...)) {
		return "has other edges"
	}
	return ""
}

// judge holds a merge of two parcels of a sound plan against what the deed itself tells.
func judge(t *testing.T, d deed) (api.Plan, api.Errno) {
	t.Helper()
	got, e := merge(d)
	want := d.fault()
	switch {
	case e != want || e != api.OK && !equal(got, api.Plan{}):
		t.Fatalf("%v: %v, error %d, want %d", d, got, e, want)
	case e == api.OK && d.holds(got) != "":
		t.Fatalf("%v: %v %s", d, got, d.holds(got))
	}
	return got, e
}

// refuse wants an error, and nothing beside it.
func refuse(t *testing.T, what string, d deed, want api.Errno) {
	t.Helper()
	if got, e := merge(d); e != want || !equal(got, api.Plan{}) {
		t.Errorf("%s, %v: %v, error %d, want %d", what, d, got, e, want)
	}
}

// done is judge for a merge that nothing keeps from being done.
func done(t *testing.T, d deed) api.Plan {
	t.Helper()
	got, e := judge(t, d)
	if e != api.OK {
		t.Fatalf("%v is not done", d)
	}
	return got
}

// eachTwo goes through all two parcels of a plan, both ways round.
func eachTwo(p api.Plan, look func(deed)) {
	for _, one := range p.Parcels {
		for _, other := range p.Parcels {
			if one.ID != other.ID {
				look(deed{p, one.ID, other.ID})
			}
		}
	}
}

func on(e api.Edge, p api.Point) bool {
	lies, _ := geo.On(e.A, e.B, p)
	return lies
}
