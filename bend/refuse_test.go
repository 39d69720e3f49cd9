package bend_test

import (
	"fmt"
	"math"
	"slices"
	"strings"
	"testing"

	"merestone/api"
	"merestone/plan"
)

// A refusal is a deed in a sound plan with one fault alone, and its error.
type refusal struct {
	name  string
	deed  deed
	fault api.Errno
}

func refusals() []refusal {
	return slices.Concat(movesOfNothing(), movesOntoSomething(), movesAcross(), marksBeside(), clearsOfNothing(), clearsOfWhatIsNeeded())
}

// movesOfNothing are from where there is no corner, or the territory's.
func movesOfNothing() []refusal {
	straight := lay(of(0, 0, 2, 0, 4, 0, 4, 4, 0, 4), parcel(5, "Ann", 0, 0, 2, 0, 4, 0, 4, 4, 0, 4))
	return []refusal{
		{"from an edge of two", moving(marked(), at(2, 1), at(3, 2)), api.ErrNone},
		{"from the territory's edge", moving(marked(), at(1, 0), at(1, 1)), api.ErrNone},
		{"from within the first one", moving(marked(), at(1, 1), at(1, 2)), api.ErrNone},
		{"from within the last one", moving(marked(), at(3, 3), at(1, 2)), api.ErrNone},
		{"from outside", moving(marked(), at(5, 2), at(3, 2)), api.ErrNone},
		{"from where the corner was", moving(bent(), at(2, 2), at(3, 3)), api.ErrNone},
		{"the territory's own corner", moving(marked(), at(0, 0), at(1, 1)), api.ErrOuter},
		{"the territory's last corner", moving(marked(), at(0, 4), at(1, 3)), api.ErrOuter},
		{"the territory's corner on a straight line, of two", moving(marked(), at(2, 0), at(2, 1)), api.ErrOuter},
		{"the territory's corner on a straight line, along it", moving(marked(), at(2, 0), at(3, 0)), api.ErrOuter},
		{"the territory's corner on a straight line, of one", moving(straight, at(2, 0), at(2, 1)), api.ErrOuter},
		{"the territory's corner on a straight line, of one, along it", moving(straight, at(2, 0), at(1, 0)), api.ErrOuter},
		{"the territory's corner on a straight line, of two others", moving(three(), at(0, 2), at(0, 1)), api.ErrOuter},
	}
}

// movesOntoSomething are to where there is a corner.
func movesOntoSomething() []refusal {
	return []refusal{
		{"to itself", moving(marked(), at(2, 2), at(2, 2)), api.ErrThere},
		{"to itself, of four", moving(crossroads(), at(2, 2), at(2, 2)), api.ErrThere},
		{"to the corner behind it", moving(zigzag(), at(2, 2), at(4, 3)), api.ErrThere},
		{"to a corner of its rings", moving(zigzag(), at(3, 4), at(2, 2)), api.ErrThere},
		{"to a corner of another one", moving(bands(), at(2, 2), at(6, 4)), api.ErrThere},
		{"to the territory's corner", moving(marked(), at(2, 2), at(0, 0)), api.ErrThere},
		{"to the territory's corner, the one behind it", moving(marked(), at(2, 2), at(2, 4)), api.ErrThere},
		{"to the territory's corner that no ring of it has", moving(star(), at(2, 2), at(0, 4)), api.ErrThere},
	}
}

// movesAcross are moves of which no sound plan comes.
func movesAcross() []refusal {
	var list []refusal
	add := func(name string, p api.Plan, from, to api.Point) {
		list = append(list, refusal{name, moving(p, from, to), api.ErrCross})
	}
	add("to an edge of the territory", marked(), at(2, 2), at(0, 2))
	add("to another edge of the territory", marked(), at(2, 2), at(3, 0))
	add("to the territory's edge, of six", star(), at(2, 2), at(4, 2))
	add("to an edge of another one", bands(), at(2, 2), at(4, 1))
	add("to an edge of its rings: they touch themselves", creek(), at(2, 2), at(3, 5))
	add("beside a corner that is on the new edge: rings touch themselves", creek(), at(2, 6), at(1, 1))
	add("across its rings: they cross themselves", island(), at(3, 3), at(6, 5))
	add("within another one, across its border", bands(), at(2, 2), at(5, 2))
	add("across a border that winds", creek(), at(4, 4), at(4, 1))
	add("outside, across a border", marked(), at(2, 2), at(5, 2))
	add("outside, along an edge", crossroads(), at(2, 2), at(5, 2))
	add("outside, of six", star(), at(2, 2), at(2, 5))
	add("far outside", marked(), at(2, 2), at(-9, 9))
	add("within the territory's notch, across nothing: a ring runs to the right", vee(), at(4, 2), at(4, 6))
	add("above the territory's notch, across nothing: a ring runs to the right", vee(), at(4, 2), at(4, 9))
	add("a triangle to the other side, across nothing: it runs to the right", tent(), at(4, 6), at(4, 3))
	add("a triangle to the other side and aslant: it runs to the right", tent(), at(4, 6), at(7, 1))
	add("a triangle to the middle of an edge: it has no area", tent(), at(4, 6), at(4, 4))
	add("a triangle in line with its edge, on another one's: it has no area", tent(), at(4, 6), at(7, 4))
	add("a triangle in line with its edge, within another one: it has no area", tent(), at(2, 4), at(3, 7))
	return list
}

func marksBeside() []refusal {
	return []refusal{
		{"a corner of two", marking(marked(), at(2, 2)), api.ErrThere},
		{"a corner of six", marking(star(), at(2, 2)), api.ErrThere},
		{"the beginning of an edge of the territory", marking(halves(), at(0, 0)), api.ErrThere},
		{"the end of an edge of the territory", marking(halves(), at(2, 0)), api.ErrThere},
		{"the beginning of the last edge", marking(halves(), at(0, 4)), api.ErrThere},
		{"an end of an edge within", marking(zigzag(), at(4, 3)), api.ErrThere},
		{"the other end of an edge within", marking(zigzag(), at(3, 4)), api.ErrThere},
		{"within the first one", marking(halves(), at(1, 1)), api.ErrSide},
		{"within the last one", marking(halves(), at(3, 3)), api.ErrSide},
		{"outside", marking(halves(), at(5, 2)), api.ErrSide},
		{"outside, in line with the first edge", marking(halves(), at(-1, 0)), api.ErrSide},
		{"outside, in line with an edge", marking(halves(), at(4, 5)), api.ErrSide},
		{"outside, in line with a border", marking(halves(), at(2, 5)), api.ErrSide},
		{"within, in line with an edge", marking(three(), at(2, 1)), api.ErrSide},
		{"within, in line with an edge that slants", marking(zigzag(), at(1, 3)), api.ErrSide},
		{"beside an edge that slants", marking(creek(), at(4, 3)), api.ErrSide},
		{"in the territory's notch", marking(vee(), at(4, 6)), api.ErrSide},
		{"where a corner was", marking(bent(), at(2, 2)), api.ErrSide},
	}
}

func clearsOfNothing() []refusal {
	return []refusal{
		{"on an edge of two", clearing(marked(), at(2, 1)), api.ErrNone},
		{"in the middle of an edge of two", clearing(halves(), at(2, 2)), api.ErrNone},
		{"on the territory's edge", clearing(halves(), at(1, 0)), api.ErrNone},
		{"on the territory's last edge", clearing(halves(), at(0, 2)), api.ErrNone},
		{"within", clearing(halves(), at(1, 1)), api.ErrNone},
		{"outside", clearing(halves(), at(5, 2)), api.ErrNone},
		{"where a corner was", clearing(bent(), at(2, 2)), api.ErrNone},
	}
}

// clearsOfWhatIsNeeded are corners where a border turns, or where more than two meet. One that is in line in all rings, but not between the same two, can't be had; nor can one that is in line in a ring whose least it is, or that is a triangle.
func clearsOfWhatIsNeeded() []refusal {
	var list []refusal
	add := func(name string, p api.Plan, corner api.Point) {
		list = append(list, refusal{name, clearing(p, corner), api.ErrSide})
	}
	add("a border of two that turns", bent(), at(3, 2))
	add("a border of two that turns, at an end", zigzag(), at(3, 1))
	add("a border of two that turns, and is a least corner", creek(), at(2, 2))
	add("the territory's own corner, the least of its ring", square(), at(0, 0))
	add("the territory's own corner", square(), at(4, 4))
	add("the territory's last corner", halves(), at(0, 4))
	add("in line in Outer alone", halves(), at(2, 0))
	add("in line in Outer alone, the least corner of a ring", bands(), at(4, 0))
	add("in line in Outer alone, of three", star(), at(2, 0))
	add("in line in the first one alone", three(), at(2, 2))
	add("in line in the middle one alone", draw("ac", "bb"), at(1, 1))
	add("in line in the last one alone", draw("ab", "cc"), at(1, 1))
	add("in line in none, of four", crossroads(), at(2, 2))
	add("in line in none, of six", star(), at(2, 2))
	add("a triangle's corner that two others have", tent(), at(2, 4))
	add("a triangle's corner that another one has", tent(), at(4, 6))
	add("a triangle's corner in line in another one", tent(), at(6, 4))
	add("the corner of a territory that is a triangle", lay(of(0, 0, 4, 0, 0, 4), parcel(1, "", 0, 0, 4, 0, 0, 4)), at(4, 0))
	return list
}

func TestRefusals(t *testing.T) {
	for _, c := range refusals() {
		for _, v := range views() {
			d := c.deed.seen(v)
			if plan.Check(d.plan) != api.OK {
				t.Fatalf("%s, %s: %v is not sound", c.name, v.name, d.plan)
			}
			refuse(t, c.name+", "+v.name, d, c.fault)
			judge(t, d)
		}
	}
}

// beyond are points that are not Good.
func beyond() []api.Point {
	var list []api.Point
	for _, n := range []int{limit + 1, -limit - 1, 1 << 32, math.MaxInt, math.MinInt, math.MaxInt - 2} {
		list = append(list, at(n, 2), at(2, n), at(n, n))
	}
	return list
}

// Two faults at once: the one that the chapter names first is told.
func TestWhichError(t *testing.T) {
	full := strips(t, 1, 62, 61, 62, 61, 62, 61, 62, 61, 1)
	if corners(full) != api.MaxCorners {
		t.Fatalf("%d corners", corners(full))
	}
	inner, free, edge, outside, corner, straight := at(2, 2), at(3, 2), at(2, 1), at(9, 9), at(0, 0), at(2, 0)
	for _, c := range []refusal{
		{"from nowhere, to a corner", moving(marked(), free, corner), api.ErrNone},
		{"from nowhere, to the inner corner", moving(marked(), free, inner), api.ErrNone},
		{"from nowhere, to itself", moving(marked(), free, free), api.ErrNone},
		{"from an edge, to itself", moving(marked(), edge, edge), api.ErrNone},
		{"from nowhere, outside", moving(marked(), free, outside), api.ErrNone},
		{"from nowhere, to an edge", moving(marked(), free, edge), api.ErrNone},
		{"Outer's, to a corner", moving(marked(), corner, straight), api.ErrOuter},
		{"Outer's, to the inner corner", moving(marked(), straight, inner), api.ErrOuter},
		{"Outer's, to itself", moving(marked(), corner, corner), api.ErrOuter},
		{"Outer's on a straight line, to itself", moving(marked(), straight, straight), api.ErrOuter},
		{"Outer's, outside", moving(marked(), corner, outside), api.ErrOuter},
		{"Outer's, to an edge", moving(marked(), straight, edge), api.ErrOuter},
		{"to a corner, across a border", moving(bands(), inner, at(6, 0)), api.ErrThere},
		{"a triangle's, to a corner on its other side", moving(tent(), at(4, 6), at(8, 0)), api.ErrThere},
		{"a corner, and no room", marking(full, at(8, 0)), api.ErrThere},
		{"a corner within, and no room", marking(full, at(5, 1)), api.ErrThere},
		{"on no edge, and no room", marking(full, at(2, 500)), api.ErrSide},
		{"outside, and no room", marking(full, at(-5, 0)), api.ErrSide},
		{"on an edge, and no room", marking(full, at(1, 0)), api.ErrCross},
	} {
		refuse(t, c.name, c.deed, c.fault)
		judge(t, c.deed)
	}
	for _, far := range beyond() {
		refuse(t, "not Good", marking(marked(), far), api.ErrRange)
		refuse(t, "not Good", clearing(marked(), far), api.ErrRange)
		for _, other := range []api.Point{inner, free, edge, outside, corner, straight, far} {
			refuse(t, "to what is not Good", moving(marked(), other, far), api.ErrRange)
			refuse(t, "from what is not Good", moving(marked(), far, other), api.ErrRange)
		}
	}
	refuse(t, "not Good, and no room", marking(full, at(limit+1, 0)), api.ErrRange)
}

// All points of all places with all others, those beside what is Good among them.
func TestAllPlaces(t *testing.T) {
	points := slices.Concat(beyond(), grid(at(-1, -1), at(9, 9)), of(limit, limit, -limit, 2, 2, limit, -limit, -limit))
	for name, p := range map[string]api.Plan{
		"square": square(), "bands": bands(), "three": three(), "crossroads": crossroads(), "star": star(), "tent": tent(), "vee": vee(),
	} {
		t.Run(name, func(t *testing.T) {
			t.Parallel()
			for i, one := range points {
				judge(t, marking(p, one))
				judge(t, clearing(p, one))
				for k, other := range points {
					if (i+k)%3 == 0 || isCorner(p, one) {
						judge(t, moving(p, one, other))
					}
				}
			}
		})
	}
}

// Plans that are not sound

// unsound are plans that are not sound, each by another of chapter 5's sentences; some would be sound behind a deed.
func unsound() map[string]api.Plan {
	change := func(to func(p *api.Plan)) api.Plan {
		p := copied(marked())
		to(&p)
		return p
	}
	return map[string]api.Plan{
		"nothing":                           {},
		"no parcel":                         lay(marked().Outer),
		"very many parcels":                 lay(marked().Outer, make([]api.Parcel, 3000)...),
		"very many corners":                 lay(slices.Repeat(of(0, 0), 5000), marked().Parcels...),
		"too many parcels":                  uneven(slices.Repeat([]int{1}, api.MaxParcels+2)...),
		"too many corners":                  uneven(1, 62, 61, 62, 61, 62, 61, 62, 62, 1),
		"a ring of too many corners":        uneven(1, 1, 1, 64, 63, 1, 1, 1),
		"IDs that don't rise":               change(func(p *api.Plan) { slices.Reverse(p.Parcels) }),
		"an ID twice":                       change(func(p *api.Plan) { p.Parcels[1].ID = 3 }),
		"an ID of 0":                        change(func(p *api.Plan) { p.Parcels[0].ID = 0 }),
		"an ID above MaxID":                 change(func(p *api.Plan) { p.Parcels[1].ID = api.MaxID + 1 }),
		"an owner that is none":             change(func(p *api.Plan) { p.Parcels[0].Owner = strings.Repeat("x", api.MaxOwner+1) }),
		"another owner that is none":        change(func(p *api.Plan) { p.Parcels[1].Owner = "\n" }),
		"an Outer begun elsewhere":          change(func(p *api.Plan) { p.Outer = slices.Concat(p.Outer[1:], p.Outer[:1]) }),
		"a ring begun elsewhere":            change(func(p *api.Plan) { p.Parcels[0].Ring = of(2, 2, 2, 4, 0, 4, 0, 0, 2, 0) }),
		"a ring that runs to the right":     change(func(p *api.Plan) { slices.Reverse(p.Parcels[0].Ring[1:]) }),
		"a ring without corners":            change(func(p *api.Plan) { p.Parcels[0].Ring = nil }),
		"a corner that is not Good":         change(func(p *api.Plan) { p.Outer[2] = at(limit+1, 0); p.Parcels[1].Ring[1] = at(limit+1, 0) }),
		"a corner that another lacks":       change(func(p *api.Plan) { p.Parcels[0].Ring = of(0, 0, 2, 0, 2, 4, 0, 4) }),
		"a corner that the territory lacks": change(func(p *api.Plan) { p.Outer = of(0, 0, 4, 0, 4, 4, 2, 4, 0, 4) }),
		"a gap":                             change(func(p *api.Plan) { p.Parcels = p.Parcels[:1] }),
		"a gap between both":                change(func(p *api.Plan) { p.Parcels[1] = bent().Parcels[1] }),
		"land of both":                      change(func(p *api.Plan) { p.Parcels[0] = bent().Parcels[0] }),
		"land twice":                        change(func(p *api.Plan) { p.Parcels[1].Ring = slices.Clone(p.Parcels[0].Ring) }),
		"a corner on an edge":               change(func(p *api.Plan) { p.Parcels[0].Ring[2], p.Parcels[1].Ring[4] = at(4, 2), at(4, 2) }),
		"borders that cross":                change(func(p *api.Plan) { p.Parcels[0].Ring[2], p.Parcels[1].Ring[4] = at(5, 2), at(5, 2) }),
	}
}

func TestPlansThatAreNotSound(t *testing.T) {
	points := slices.Concat(beyond()[:6], of(2, 2, 3, 2, 4, 2, 5, 2, 2, 1, 0, 0, 2, 0, 4, 500, 1, 0, 9, 9))
	for name, p := range unsound() {
		if plan.Check(p) != api.ErrForm {
			t.Fatalf("%s is sound", name)
		}
		for _, one := range points {
			refuse(t, name, marking(p, one), api.ErrForm)
			refuse(t, name, clearing(p, one), api.ErrForm)
			for _, other := range points {
				refuse(t, name, moving(p, one, other), api.ErrForm)
			}
		}
	}
}

// spoilt are plans that each one thing has made unsound: what lies at the parcel of that place.
func spoilt(p api.Plan, i int) []api.Plan {
	var list []api.Plan
	add := func(to func(p *api.Plan, parcel *api.Parcel)) {
		q := copied(p)
		to(&q, &q.Parcels[i])
		list = append(list, q)
	}
	add(func(p *api.Plan, parcel *api.Parcel) { parcel.Owner = "\x7f" })
	add(func(p *api.Plan, parcel *api.Parcel) { parcel.Ring = slices.Concat(parcel.Ring[1:], parcel.Ring[:1]) })
	add(func(p *api.Plan, parcel *api.Parcel) { slices.Reverse(parcel.Ring[1:]) })
	add(func(p *api.Plan, parcel *api.Parcel) { parcel.Ring[1].X += 4 * limit })
	add(func(p *api.Plan, parcel *api.Parcel) { p.Parcels = append(p.Parcels, *parcel) })
	add(func(p *api.Plan, parcel *api.Parcel) { p.Outer = slices.Concat(p.Outer[1:], p.Outer[:1]) })
	add(func(p *api.Plan, parcel *api.Parcel) { p.Outer = nil })
	return list
}

// Whatever a deed would tell, or be: if the plan is not sound, that is told, wherever its fault lies, even if it were gone behind the deed.
func TestUnsoundAndMore(t *testing.T) {
	var deeds []deed
	for _, c := range slices.Concat(moves(), marks(), clears()) {
		deeds = append(deeds, c.deed)
	}
	for _, c := range refusals() {
		deeds = append(deeds, c.deed)
	}
	for _, d := range deeds {
		for i := range d.plan.Parcels {
			for n, p := range spoilt(d.plan, i) {
				refuse(t, fmt.Sprint("spoilt ", n), deed{d.kind, p, d.at, d.to}, api.ErrForm)
			}
		}
	}
}
