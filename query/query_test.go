package query_test

import (
	"fmt"
	"slices"
	"strings"
	"testing"

	"merestone/api"
	"merestone/cut"
	"merestone/plan"
	"merestone/query"
)

// The calls as the chapter lists them: this does not compile if one is another.
var (
	_ func(api.Plan) (*query.Index, api.Errno)                          = query.New
	_ func(*query.Index, api.Point) ([]int, api.Errno)                  = (*query.Index).Locate
	_ func(*query.Index, api.Window) ([]int, api.Errno)                 = (*query.Index).Window
	_ func(*query.Index) ([]api.Pair, api.Errno)                        = (*query.Index).Pairs
	_ func(x *query.Index, a, b int) ([]api.Edge, []api.Int, api.Errno) = (*query.Index).Border
	_ func(*query.Index) int                                            = (*query.Index).Asked
)

func TestChaptersExample(t *testing.T) {
	one, _ := plan.Begin(of(0, 0, 4, 0, 4, 4, 0, 4), 1, "Ann")
	p, e := cut.Split(one, 1, of(2, 0, 2, 4), 2)
	if e != api.OK || !slices.Equal(p.Parcels[0].Ring, halves().Parcels[0].Ring) {
		t.Fatalf("Split: %v, %d", p, e)
	}
	x := made(t, "the example", p)
	giveLocate(t, "the example", x, at(2, 2), ids(1, 2))
	givePairs(t, "the example", x, pairs(1, 2))
	edge, length, e := x.Border(1, 2)
	if !slices.Equal(edge, edges(2, 4, 2, 0)) || !slices.Equal(length, []api.Int{{Lo: 16}}) || e != api.OK {
		t.Errorf("Border: %v, %v, %d", edge, length, e)
	}
}

// New

// The plans that the tests ask are sound, in all views.
func TestNewOfSoundPlans(t *testing.T) {
	for name, p := range all() {
		for _, v := range views() {
			what := name + ", " + v.name
			if e := plan.Check(v.plan(p)); e != api.OK {
				t.Fatalf("%s is not sound: %d", what, e)
			}
			if x := made(t, what, v.plan(p)); x.Asked() != 0 {
				t.Errorf("%s: Asked %d at first", what, x.Asked())
			}
		}
	}
	made(t, "as many parcels as there may be", mustPlan(t, block(at(0, 0), 1, 8, 8)))
	made(t, "rings as long as they may be", strips(1, 63, 63, 1))
	made(t, "as many corners as there may be", strips(1, 62, 61, 62, 61, 62, 61, 62, 61, 1))
}

func mustPlan(t *testing.T, s sheet) api.Plan {
	t.Helper()
	p, ok := s.plan()
	if !ok {
		t.Fatalf("%v has no plan", s)
	}
	return p
}

// unsound are plans that are not sound, by each of chapter 5's sentences.
func unsound() map[string]api.Plan {
	change := func(to func(p *api.Plan)) api.Plan {
		p := crossroads()
		to(&p)
		return p
	}
	owner := func(i int, name string) api.Plan {
		return change(func(p *api.Plan) { p.Parcels[i].Owner = name })
	}
	return map[string]api.Plan{
		"nothing":                           {},
		"no parcel":                         lay(crossroads().Outer),
		"no territory":                      lay(nil, crossroads().Parcels...),
		"very many parcels":                 lay(crossroads().Outer, make([]api.Parcel, 3000)...),
		"very many corners":                 lay(slices.Repeat(of(0, 0), 5000), crossroads().Parcels...),
		"a parcel too many":                 manyParcels(),
		"corners too many":                  strips(1, 62, 61, 62, 61, 62, 61, 62, 62, 1),
		"a ring of too many corners":        strips(1, 1, 1, 64, 63, 1, 1, 1),
		"an Outer of too many corners":      strips(63, 1, 62),
		"IDs that fall":                     change(func(p *api.Plan) { slices.Reverse(p.Parcels) }),
		"two parcels not by ID":             change(func(p *api.Plan) { p.Parcels[1], p.Parcels[2] = p.Parcels[2], p.Parcels[1] }),
		"the last two not by ID":            change(func(p *api.Plan) { p.Parcels[2], p.Parcels[3] = p.Parcels[3], p.Parcels[2] }),
		"an ID twice":                       change(func(p *api.Plan) { p.Parcels[1].ID = 2 }),
		"an ID of 0":                        change(func(p *api.Plan) { p.Parcels[0].ID = 0 }),
		"an ID below 0":                     change(func(p *api.Plan) { p.Parcels[0].ID = -2 }),
		"an ID above MaxID":                 change(func(p *api.Plan) { p.Parcels[3].ID = api.MaxID + 1 }),
		"an owner too long":                 owner(0, strings.Repeat("x", api.MaxOwner+1)),
		"an owner with a byte of 31":        owner(1, "A\x1f"),
		"an owner with a byte of 127":       owner(2, "\x7f"),
		"an owner with bytes above":         owner(3, "\u00fc"),
		"an Outer begun elsewhere":          change(func(p *api.Plan) { p.Outer = slices.Concat(p.Outer[1:], p.Outer[:1]) }),
		"a ring begun elsewhere":            change(func(p *api.Plan) { p.Parcels[0].Ring = of(2, 0, 2, 2, 0, 2, 0, 0) }),
		"the last ring begun elsewhere":     change(func(p *api.Plan) { p.Parcels[3].Ring = of(2, 4, 2, 2, 4, 2, 4, 4) }),
		"a ring that runs to the right":     change(func(p *api.Plan) { slices.Reverse(p.Parcels[0].Ring[1:]) }),
		"an Outer that runs to the right":   change(func(p *api.Plan) { slices.Reverse(p.Outer[1:]) }),
		"a ring without corners":            change(func(p *api.Plan) { p.Parcels[0].Ring = nil }),
		"a ring that touches itself":        lay(of(0, 0, 2, 0, 4, 0, 4, 2, 4, 4, 2, 4, 0, 4, 0, 2), parcel(1, 0, 0, 2, 0, 2, 2, 4, 2, 4, 4, 2, 4, 2, 2, 0, 2), parcel(2, 2, 0, 4, 0, 4, 2, 2, 2), parcel(3, 0, 2, 2, 2, 2, 4, 0, 4)),
		"an Outer that touches itself":      lay(of(0, 0, 2, 0, 2, 2, 4, 2, 4, 4, 2, 4, 2, 2, 0, 2), parcel(1, 0, 0, 2, 0, 2, 2, 0, 2), parcel(2, 2, 2, 4, 2, 4, 4, 2, 4)),
		"a corner that is not Good":         change(func(p *api.Plan) { p.Outer[2].X, p.Parcels[1].Ring[1].X = limit+1, limit+1 }),
		"a corner that another one lacks":   change(func(p *api.Plan) { p.Parcels[0].Ring = of(0, 0, 2, 0, 2, 1, 2, 2, 0, 2) }),
		"a corner that the territory lacks": change(func(p *api.Plan) { p.Outer = of(0, 0, 4, 0, 4, 2, 4, 4, 2, 4, 0, 4, 0, 2) }),
		"a corner of the territory alone":   change(func(p *api.Plan) { p.Outer = of(0, 0, 2, 0, 3, 0, 4, 0, 4, 2, 4, 4, 2, 4, 0, 4, 0, 2) }),
		"a gap":                             change(func(p *api.Plan) { p.Parcels = p.Parcels[:3] }),
		"a gap between two":                 change(func(p *api.Plan) { p.Parcels[0].Ring[2] = at(1, 1) }),
		"land of two":                       change(func(p *api.Plan) { p.Parcels[0].Ring[2] = at(3, 3) }),
		"land twice":                        change(func(p *api.Plan) { p.Parcels[1].Ring = slices.Clone(p.Parcels[0].Ring) }),
		"land outside":                      change(func(p *api.Plan) { p.Parcels = append(p.Parcels, parcel(9, 4, 0, 6, 0, 6, 2, 4, 2)) }),
		"the territory and land within":     lay(square().Outer, square().Parcels[0], parcel(6, 1, 1, 3, 1, 3, 3, 1, 3)),
		"a corner on another one's edge":    lay(halves().Outer, parcel(1, 2, 0, 4, 0, 4, 4, 2, 4, 2, 2), parcel(2, 0, 0, 2, 0, 2, 4, 0, 4)),
		"borders that cross":                change(func(p *api.Plan) { p.Parcels[0].Ring[2], p.Parcels[3].Ring[0] = at(3, 1), at(1, 3) }),
		"all moved but the territory":       lay(halves().Outer, parcel(1, 3, 1, 5, 1, 5, 5, 3, 5), parcel(2, 1, 1, 3, 1, 3, 5, 1, 5)),
	}
}

// manyParcels is sound but for how many there are.
func manyParcels() api.Plan {
	p, _ := block(at(0, 0), 1, 13, 5).plan()
	return p
}

func TestNewOfPlansThatAreNotSound(t *testing.T) {
	for name, p := range unsound() {
		if plan.Check(p) != api.ErrForm {
			t.Fatalf("%s is sound", name)
		}
		if x, e := query.New(p); x != nil || e != api.ErrForm {
			t.Errorf("%s: %v, %d", name, x, e)
		}
	}
}

// No index

// A nil index refuses all four calls, ahead of what else is at fault, and what is refused there is not counted.
func TestNoIndex(t *testing.T) {
	_, e := query.New(api.Plan{})
	if e != api.ErrForm {
		t.Fatalf("New of nothing: %d", e)
	}
	var x *query.Index
	for range 2 {
		refusePairs(t, "nil", x, api.ErrArg)
		for _, p := range []api.Point{at(0, 0), at(2, 2), at(limit, -limit), at(limit+1, 0), at(0, -limit-1)} {
			refuseLocate(t, "nil", x, p, api.ErrArg)
		}
		for _, w := range []api.Window{box(0, 0, 0, 0), box(0, 0, 4, 4), box(limit+1, 0, limit+1, 0), box(0, 0, limit+1, 0), box(1, 0, 0, 0), box(0, 1, 0, 0)} {
			refuseWindow(t, "nil", x, w, api.ErrArg)
		}
		for _, pair := range pairs(1, 2, 2, 1, 1, 1, 0, 0, -1, 7) {
			refuseBorder(t, "nil", x, pair.A, pair.B, api.ErrArg)
		}
		if n := x.Asked(); n != 0 {
			t.Errorf("nil: Asked %d", n)
		}
	}
}

// An index that New has not made has no parcels.
func TestEmptyIndex(t *testing.T) {
	x := new(query.Index)
	giveLocate(t, "empty", x, at(0, 0), nil)
	giveWindow(t, "empty", x, box(-1, -1, 1, 1), nil)
	givePairs(t, "empty", x, nil)
	refuseBorder(t, "empty", x, 0, 0, api.ErrNone)
	refuseBorder(t, "empty", x, 0, 1, api.ErrNone)
	if x.Asked() != 5 {
		t.Errorf("empty: Asked %d", x.Asked())
	}
}

// R4 and R5

func spoilRing(r api.Ring) {
	for i := range r[:cap(r)] {
		r[:cap(r)][i] = at(-77, -77)
	}
}

func spoil(p api.Plan) {
	spoilRing(p.Outer)
	list := p.Parcels[:cap(p.Parcels)]
	for i := range list {
		spoilRing(list[i].Ring)
		list[i] = api.Parcel{ID: -77, Owner: "spoilt"}
	}
}

// roomy is a plan whose lists have spare room, with something in it.
func roomy(p api.Plan) api.Plan {
	grown := func(r api.Ring) api.Ring { return slices.Concat(r, of(7, 7, 8, 8, 9, 9))[:len(r)] }
	q := lay(grown(p.Outer))
	for _, parcel := range p.Parcels {
		parcel.Ring = grown(parcel.Ring)
		q.Parcels = append(q.Parcels, parcel)
	}
	spare := []api.Parcel{parcel(1, 1, 1), parcel(99, 2, 2)}
	q.Parcels = slices.Concat(q.Parcels, spare)[:len(p.Parcels)]
	return q
}

// whole is a copy of all that the lists of a plan have, their spare room too.
func whole(p api.Plan) api.Plan {
	q := lay(slices.Clone(p.Outer[:cap(p.Outer)]))
	for _, parcel := range p.Parcels[:cap(p.Parcels)] {
		parcel.Ring = slices.Clone(parcel.Ring[:cap(parcel.Ring)])
		q.Parcels = append(q.Parcels, parcel)
	}
	return q
}

func TestNewLeavesThePlanAsItIs(t *testing.T) {
	list := unsound()
	for name, p := range all() {
		list[name] = p
	}
	for name, p := range list {
		p = roomy(p)
		before := whole(p)
		x, _ := query.New(p)
		x.Locate(at(2, 2))
		x.Window(box(0, 0, 8, 8))
		x.Pairs()
		x.Border(1, 2)
		if !equal(whole(p), before) {
			t.Errorf("%s: the plan is otherwise now", name)
		}
	}
}

// An index is of the plan as it was at New, be it changed ahead of the first question or between two.
func TestThePlanIsNotKept(t *testing.T) {
	for name, p := range all() {
		points, windows := questions()
		for range 2 {
			soon, late := copied(p), copied(p)
			first, second := made(t, name, soon), made(t, name, late)
			spoil(soon)
			answer := answers(second, p, points, windows)
			spoil(late)
			if again := answers(second, p, points, windows); again != answer {
				t.Errorf("%s, spoilt amid the questions: %s, not %s", name, again, answer)
			}
			if other := answers(first, p, points, windows); other != answer {
				t.Errorf("%s, spoilt ahead of the questions: %s, not %s", name, other, answer)
			}
		}
		judge(t, name, p, points, windows)
	}
}

// A plan that another one comes of by one parcel's ring and owner.
func TestThePlanIsNotKeptWhereItStaysSound(t *testing.T) {
	p := halves()
	x := made(t, "halves", p)
	p.Parcels[0], p.Parcels[1] = p.Parcels[1], p.Parcels[0]
	p.Parcels[0].ID, p.Parcels[1].ID = 1, 2
	if plan.Check(p) != api.OK {
		t.Fatal("the other halves are not sound")
	}
	giveLocate(t, "halves", x, at(1, 1), ids(2))
	giveBorder(t, "halves", x, 1, 2, edges(2, 4, 2, 0))
	y := made(t, "the other halves", p)
	giveLocate(t, "the other halves", y, at(1, 1), ids(1))
	giveBorder(t, "the other halves", y, 1, 2, edges(2, 0, 2, 4))
	giveLocate(t, "halves", x, at(1, 1), ids(2))
}

// questions are points and windows on and around all between 0 and 8.
func questions() ([]api.Point, []api.Window) {
	var points []api.Point
	list := steps(0, 1, 8)
	for _, x := range list {
		for _, y := range list {
			points = append(points, at(x, y))
		}
	}
	return points, windowsOf(list, list, 41)
}

// answers are all that an index of p tells, as text.
func answers(x *query.Index, p api.Plan, points []api.Point, windows []api.Window) string {
	var b strings.Builder
	for _, one := range points {
		list, e := x.Locate(one)
		fmt.Fprint(&b, list, e)
	}
	for _, w := range windows {
		list, e := x.Window(w)
		fmt.Fprint(&b, list, e)
	}
	list, e := x.Pairs()
	fmt.Fprint(&b, list, e)
	for _, one := range p.Parcels {
		for _, other := range p.Parcels {
			border, lengths, e := x.Border(one.ID, other.ID)
			fmt.Fprint(&b, border, lengths, e)
		}
	}
	return b.String()
}

// What is done with an answer, its spare room too, is not seen in another one.
func TestAnswersAreNewMemory(t *testing.T) {
	for name, p := range all() {
		x := made(t, name, p)
		ask := []func() any{
			func() any { list, _ := x.Locate(at(2, 2)); return list },
			func() any { list, _ := x.Locate(at(0, 0)); return list },
			func() any { list, _ := x.Window(box(0, 0, 8, 8)); return list },
			func() any { list, _ := x.Window(box(1, 1, 1, 1)); return list },
			func() any { list, _ := x.Pairs(); return list },
		}
		for _, one := range p.Parcels {
			for _, other := range p.Parcels {
				ask = append(ask,
					func() any { list, _, _ := x.Border(one.ID, other.ID); return list },
					func() any { _, list, _ := x.Border(one.ID, other.ID); return list })
			}
		}
		for i, question := range ask {
			one, other := question(), question()
			before := fmt.Sprint(other)
			spoilAnswer(one)
			if now := fmt.Sprint(other); now != before {
				t.Errorf("%s, question %d: %s became %s", name, i, before, now)
			}
			if again := fmt.Sprint(question()); again != before {
				t.Errorf("%s, question %d: %s, then %s", name, i, before, again)
			}
		}
	}
}

func spoilAnswer(answer any) {
	switch list := answer.(type) {
	case []int:
		spoilList(list, -77)
	case []api.Pair:
		spoilList(list, api.Pair{A: -77, B: -77})
	case []api.Edge:
		spoilList(list, api.Edge{A: at(-77, -77), B: at(-77, -77)})
	case []api.Int:
		spoilList(list, api.Int{Hi: -77, Lo: 77})
	}
}

func spoilList[T any](list []T, by T) {
	for i := range list[:cap(list)] {
		list[:cap(list)][i] = by
	}
}

// The same questions have the same answers, in whatever order they come, and of whichever index of the plan.
func TestNothingIsKept(t *testing.T) {
	for name, p := range all() {
		points, windows := questions()
		x := made(t, name, p)
		one := answers(x, p, points, windows)
		x.Locate(at(limit+1, 0))
		x.Window(box(1, 0, 0, 0))
		x.Border(p.Parcels[0].ID, p.Parcels[0].ID)
		x.Border(0, 0)
		if other := answers(x, p, points, windows); other != one {
			t.Errorf("%s: %s, then %s", name, one, other)
		}
		y := made(t, name, p)
		y.Border(p.Parcels[0].ID, 0)
		y.Pairs()
		y.Window(box(-limit, -limit, limit, limit))
		if other := answers(y, p, points, windows); other != one {
			t.Errorf("%s: %s, of another one %s", name, one, other)
		}
	}
}
