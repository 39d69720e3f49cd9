package bend_test

import (
	"fmt"
	"slices"
	"testing"

	"merestone/api"
	"merestone/bend"
	"merestone/geo"
	"merestone/plan"
	"merestone/ring"
	"merestone/wide"
)

// A deed is a call that is asked for; to is Move's alone.
type deed struct {
	kind   string
	plan   api.Plan
	at, to api.Point
}

func moving(p api.Plan, from, to api.Point) deed { return deed{"Move", p, from, to} }
func marking(p api.Plan, at api.Point) deed      { return deed{"Mark", p, at, api.Point{}} }
func clearing(p api.Plan, at api.Point) deed     { return deed{"Clear", p, at, api.Point{}} }

// String leaves out most of a large plan.
func (d deed) String() string {
	if d.kind == "Move" {
		return fmt.Sprintf("Move of %v to %v in %.600s", d.at, d.to, fmt.Sprint(d.plan))
	}
	return fmt.Sprintf("%s of %v in %.600s", d.kind, d.at, fmt.Sprint(d.plan))
}

func (d deed) do() (api.Plan, api.Errno) {
	switch d.kind {
	case "Move":
		return bend.Move(d.plan, d.at, d.to)
	case "Mark":
		return bend.Mark(d.plan, d.at)
	}
	return bend.Clear(d.plan, d.at)
}

func (d deed) seen(v view) deed {
	return deed{d.kind, v.plan(d.plan), v.to(d.at), v.to(d.to)}
}

func edges(r api.Ring) []api.Edge {
	var list []api.Edge
	for i, a := range r {
		list = append(list, api.Edge{A: a, B: r[(i+1)%len(r)]})
	}
	return list
}

func allEdges(p api.Plan) []api.Edge {
	var list []api.Edge
	for _, r := range rings(p) {
		list = append(list, edges(r)...)
	}
	return list
}

func lies(e api.Edge, p api.Point) bool {
	on, _ := geo.On(e.A, e.B, p)
	return on
}

func isCorner(p api.Plan, at api.Point) bool {
	return slices.Contains(slices.Concat(rings(p)...), at)
}

func corners(p api.Plan) int {
	return len(slices.Concat(rings(p)...))
}

// fault tells the error of a deed in a sound plan, without trying it.
func (d deed) fault() api.Errno {
	corner := isCorner(d.plan, d.at)
	switch {
	case !geo.Good(d.at, d.to):
		return api.ErrRange
	case d.kind == "Mark" && corner:
		return api.ErrThere
	case d.kind == "Mark":
		return d.faultOfMark()
	case !corner:
		return api.ErrNone
	case d.kind == "Clear" && !d.idle():
		return api.ErrSide
	case d.kind == "Clear":
		return api.OK
	}
	return d.faultOfMove()
}

func (d deed) faultOfMove() api.Errno {
	switch {
	case slices.Contains(d.plan.Outer, d.at):
		return api.ErrOuter
	case isCorner(d.plan, d.to):
		return api.ErrThere
	case !d.apart() || !d.toTheLeft():
		return api.ErrCross
	}
	return api.OK
}

func (d deed) faultOfMark() api.Errno {
	count := 0
	for _, r := range rings(d.plan) {
		if slices.ContainsFunc(edges(r), func(e api.Edge) bool { return lies(e, d.at) }) {
			count++
			if len(r) == api.MaxPoints {
				return api.ErrCross
			}
		}
	}
	switch {
	case count == 0:
		return api.ErrSide
	case corners(d.plan)+count > api.MaxCorners:
		return api.ErrCross
	}
	return api.OK
}

// beside are the corners to which edges lead from the deed's, each once.
func (d deed) beside() []api.Point {
	var list []api.Point
	for _, e := range allEdges(d.plan) {
		for _, e := range []api.Edge{e, {A: e.B, B: e.A}} {
			if e.A == d.at && !slices.Contains(list, e.B) {
				list = append(list, e.B)
			}
		}
	}
	return list
}

// idle looks at all edges at the corner at once: if they lead to two corners alone, these are the same two in all rings.
func (d deed) idle() bool {
	list := d.beside()
	return len(list) == 2 && lies(api.Edge{A: list[0], B: list[1]}, d.at)
}

// apart answers whether the stretches to where the corner comes have nothing in common with each other but that, and with all others nothing but the corner where they end.
func (d deed) apart() bool {
	beside := d.beside()
	for i, n := range beside {
		for _, m := range beside[:i] {
			if common, _ := geo.Meet(n, d.to, m, d.to); common != 1 {
				return false
			}
		}
		for _, e := range allEdges(d.plan) {
			if e.A == d.at || e.B == d.at {
				continue
			}
			common, _ := geo.Meet(n, d.to, e.A, e.B)
			if ended := n == e.A || n == e.B; common != 0 && (common != 1 || !ended) {
				return false
			}
		}
	}
	return true
}

// toTheLeft answers whether all rings still run to the left.
func (d deed) toTheLeft() bool {
	return !slices.ContainsFunc(rings(d.after()), func(r api.Ring) bool {
		area, _ := ring.Area(r)
		return wide.Sign(area) <= 0
	})
}

// after is the plan that a deed without a fault leaves.
func (d deed) after() api.Plan {
	return each(d.plan, func(r api.Ring) api.Ring {
		var list api.Ring
		for _, e := range edges(r) {
			switch {
			case e.A != d.at:
				list = append(list, e.A)
			case d.kind == "Move":
				list = append(list, d.to)
			}
			if d.kind == "Mark" && lies(e, d.at) {
				list = append(list, d.at)
			}
		}
		return list
	})
}

// judge holds a deed in a sound plan against what the deed itself tells.
func judge(t *testing.T, d deed) (api.Plan, api.Errno) {
	t.Helper()
	got, e := d.do()
	want, fault := api.Plan{}, d.fault()
	if fault == api.OK {
		want = d.after()
	}
	switch {
	case e != fault || !equal(got, want):
		t.Fatalf("%v: %v, error %d, want %v, error %d", d, got, e, want, fault)
	case e == api.OK && plan.Check(got) != api.OK:
		t.Fatalf("%v: %v is not sound", d, got)
	}
	return got, e
}

// done is judge for a deed that nothing keeps from being done.
func done(t *testing.T, d deed) api.Plan {
	t.Helper()
	got, e := judge(t, d)
	if e != api.OK {
		t.Fatalf("%v is not done: error %d", d, e)
	}
	return got
}

// give wants a plan that is known.
func give(t *testing.T, what string, d deed, want api.Plan) {
	t.Helper()
	if got, e := d.do(); e != api.OK || !equal(got, want) {
		t.Errorf("%s, %v: %v, error %d, want %v", what, d, got, e, want)
	}
}

// refuse wants an error, and nothing beside it.
func refuse(t *testing.T, what string, d deed, want api.Errno) {
	t.Helper()
	if got, e := d.do(); e != want || !equal(got, api.Plan{}) {
		t.Errorf("%s, %v: %v, error %d, want %d", what, d, got, e, want)
	}
}
