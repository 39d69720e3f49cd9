package record_test

import (
	"fmt"
	"slices"
	"strings"
	"testing"

	"merestone/api"
	"merestone/cut"
	"merestone/plan"
)

const (
	limit = api.MaxCoord
	size  = api.CellSize
)

func at(x, y int) api.Point { return api.Point{X: x, Y: y} }

// of makes a ring of numbers: X and Y of one point after the other.
func of(numbers ...int) api.Ring {
	var r api.Ring
	for pair := range slices.Chunk(numbers, 2) {
		r = append(r, at(pair[0], pair[1]))
	}
	return r
}

func parcel(id int, owner string, corners ...int) api.Parcel {
	return api.Parcel{ID: id, Ring: of(corners...), Owner: owner}
}

func lay(outer api.Ring, list ...api.Parcel) api.Plan {
	return api.Plan{Outer: outer, Parcels: list}
}

// alone is a plan whose one parcel has all of the territory.
func alone(id int, owner string, corners ...int) api.Plan {
	return lay(of(corners...), parcel(id, owner, corners...))
}

func copied(p api.Plan) api.Plan {
	other := lay(slices.Clone(p.Outer), slices.Clone(p.Parcels)...)
	for i := range other.Parcels {
		other.Parcels[i].Ring = slices.Clone(p.Parcels[i].Ring)
	}
	return other
}

func equal(p, q api.Plan) bool {
	return slices.Equal(p.Outer, q.Outer) && slices.EqualFunc(p.Parcels, q.Parcels, func(a, b api.Parcel) bool {
		return a.ID == b.ID && a.Owner == b.Owner && slices.Equal(a.Ring, b.Ring)
	})
}

func isNothing(p api.Plan) bool {
	return len(p.Outer) == 0 && len(p.Parcels) == 0
}

// least begins any ring at its least corner.
func least(r api.Ring) api.Ring {
	first := 0
	for i, p := range r {
		if p.X < r[first].X || p.X == r[first].X && p.Y < r[first].Y {
			first = i
		}
	}
	return slices.Concat(r[first:], r[:first])
}

func square() api.Plan {
	return alone(1, "A", 0, 0, 4, 0, 4, 4, 0, 4)
}

// halves is chapter 6's example.
func halves() api.Plan {
	return lay(of(0, 0, 2, 0, 4, 0, 4, 4, 2, 4, 0, 4), parcel(1, "Ann", 2, 0, 4, 0, 4, 4, 2, 4), parcel(2, "Bob", 0, 0, 2, 0, 2, 4, 0, 4))
}

// crossroads is a square in four, with one point in common.
func crossroads() api.Plan {
	return lay(of(0, 0, 2, 0, 4, 0, 4, 2, 4, 4, 2, 4, 0, 4, 0, 2),
		parcel(2, "", 0, 0, 2, 0, 2, 2, 0, 2), parcel(4, " ", 2, 0, 4, 0, 4, 2, 2, 2),
		parcel(60, `"\`, 0, 2, 2, 2, 2, 4, 0, 4), parcel(api.MaxID, "Ann", 2, 2, 4, 2, 4, 4, 2, 4))
}

// creek is two with a border that winds: the second one's first corner is amid it.
func creek() api.Plan {
	return lay(of(0, 0, 4, 0, 8, 0, 8, 8, 4, 8, 0, 8),
		parcel(100, "Ann", 0, 0, 4, 0, 2, 2, 6, 3, 4, 4, 2, 6, 4, 8, 0, 8),
		parcel(1000, "Ann", 2, 2, 4, 0, 8, 0, 8, 8, 4, 8, 2, 6, 4, 4, 6, 3))
}

// gate is two with a border in three parts: 5 and 7 lie between.
func gate() api.Plan {
	return lay(of(0, 0, 4, 0, 8, 0, 8, 8, 4, 8, 0, 8),
		parcel(3, "a", 0, 0, 4, 0, 4, 1, 3, 2, 4, 3, 4, 5, 3, 6, 4, 7, 4, 8, 0, 8),
		parcel(5, "b", 3, 2, 4, 1, 5, 2, 4, 3), parcel(7, "c", 3, 6, 4, 5, 5, 6, 4, 7),
		parcel(9, "d", 4, 0, 8, 0, 8, 8, 4, 8, 4, 7, 5, 6, 4, 5, 4, 3, 5, 2, 4, 1))
}

// all are plans of all kinds, between 0 and 8.
func all() map[string]api.Plan {
	return map[string]api.Plan{
		"square": square(), "halves": halves(), "crossroads": crossroads(), "creek": creek(), "gate": gate(),
		"triangle": alone(api.MaxID, "Zoe", 0, 0, 8, 3, 5, 8),
		"marked":   alone(17, "~", 0, 0, 3, 0, 5, 0, 8, 0, 8, 8, 4, 8, 0, 8, 0, 1),
	}
}

// A view lays the plane down elsewhere. Where it is mirrored, left and right change places, so that rings run the other way round.
type view struct {
	mirrored bool
	to       func(api.Point) api.Point
}

func views() map[string]view {
	return map[string]view{
		"as it is":          {false, func(p api.Point) api.Point { return p }},
		"turned once":       {false, func(p api.Point) api.Point { return at(-p.Y, p.X) }},
		"turned twice":      {false, func(p api.Point) api.Point { return at(-p.X, -p.Y) }},
		"turned thrice":     {false, func(p api.Point) api.Point { return at(p.Y, -p.X) }},
		"X and Y":           {true, func(p api.Point) api.Point { return at(p.Y, p.X) }},
		"around the nought": {false, func(p api.Point) api.Point { return at(p.X-4, p.Y-4) }},
		"slanted":           {false, func(p api.Point) api.Point { return at(2*p.X+p.Y-9, p.X+3*p.Y-11) }},
		"all that is Good":  {false, func(p api.Point) api.Point { return at((p.X-4)*(limit/4), (p.Y-4)*(limit/4)) }},
		"high and low":      {false, func(p api.Point) api.Point { return at(limit-8+p.X, -limit+p.Y) }},
		"low and high":      {true, func(p api.Point) api.Point { return at(-limit+p.X, limit-p.Y) }},
		"around a cell":     {false, func(p api.Point) api.Point { return at(-2*size-4+p.X, size-1+p.Y) }},
		"a cell a step":     {false, func(p api.Point) api.Point { return at(-2*size+1+p.X*(size/4), size-7-p.X+p.Y*(size/5)) }},
		"many digits":       {true, func(p api.Point) api.Point { return at(123456789-p.X*10007, -987654321+p.Y*100003) }},
	}
}

func (v view) ring(r api.Ring) api.Ring {
	var seen api.Ring
	for _, p := range r {
		seen = append(seen, v.to(p))
	}
	if v.mirrored {
		slices.Reverse(seen)
	}
	return least(seen)
}

func (v view) plan(p api.Plan) api.Plan {
	seen := lay(v.ring(p.Outer))
	for _, parcel := range p.Parcels {
		parcel.Ring = v.ring(parcel.Ring)
		seen.Parcels = append(seen.Parcels, parcel)
	}
	return seen
}

func needSound(t *testing.T, what string, p api.Plan) {
	t.Helper()
	if plan.Check(p) != api.OK {
		t.Fatalf("%s is not sound: %s", what, brief(p))
	}
}

// eachPlan goes through all plans under all views.
func eachPlan(t *testing.T, visit func(what string, p api.Plan)) {
	t.Helper()
	for name, p := range all() {
		for seen, v := range views() {
			what, one := name+", "+seen, v.plan(p)
			needSound(t, what, one)
			visit(what, one)
		}
	}
}

// eachOfChain goes through the plans of one parcel that is cut to two, and so on, till there are MaxParcels.
func eachOfChain(t *testing.T, visit func(p api.Plan)) {
	t.Helper()
	p, fault := plan.Begin(of(-8, -80, 8, -80, 8, 80, -8, 80), 1000, "Ann")
	split := func(id, fresh int, path api.Ring) {
		if fault == api.OK {
			visit(p)
			p, fault = cut.Split(p, id, path, fresh)
		}
	}
	for column := range 7 {
		x := 2*column - 6
		split(1000, 7*column+1, of(x, -80, x, 80))
	}
	for column, id := range []int{1, 8, 15, 22, 29, 36, 43, 1000} {
		for row := range 7 {
			x, y := 2*column-8, 20*row-60
			split(id, 100*row+column+50, of(x+2, y, x+1, y+7-column, x, y))
		}
	}
	if fault != api.OK || len(p.Parcels) != api.MaxParcels {
		t.Fatalf("a chain of %d parcels: %d", len(p.Parcels), fault)
	}
	visit(p)
}

// ofCorners is a plan of one parcel with so many corners, from 3 on: the last ones go to and fro at the top.
func ofCorners(corners int) api.Plan {
	r := of(0, 0, corners, 0)
	for i := range corners - 2 {
		r = append(r, at(corners-1-i, 9+i%2))
	}
	return lay(r, api.Parcel{ID: 77, Ring: r, Owner: "Ann"})
}

// columns is a plan of upright strips, side by side, far from the nought; borders tells how many edges each upright border has, the territory's two among them. It need not be sound.
func columns(owner string, borders ...int) api.Plan {
	const low, width = -limit, 1 << 24
	border := func(i int) api.Ring {
		var r api.Ring
		for y := range borders[i] {
			r = append(r, at(low+width*i+3*(y%2), low+y))
		}
		return append(r, at(low+width*i, low+1000))
	}
	downward := func(i int) api.Ring {
		r := border(i)
		slices.Reverse(r)
		return r
	}
	var p api.Plan
	last := len(borders) - 1
	for i := range last {
		p.Parcels = append(p.Parcels, api.Parcel{ID: api.MaxID - last + i, Ring: least(slices.Concat(border(i+1), downward(i))), Owner: owner})
		p.Outer = append(p.Outer, border(i)[0])
	}
	p.Outer = append(p.Outer, border(last)...)
	for i := last - 1; i > 0; i-- {
		p.Outer = append(p.Outer, at(low+width*i, low+1000))
	}
	left := downward(0)
	p.Outer = least(append(p.Outer, left[:len(left)-1]...))
	return p
}

// slab is a plan of squares, so many along and so many up, with a corner wherever squares have one. It need not be sound.
func slab(along, up int) api.Plan {
	var p api.Plan
	for x := range along {
		for y := range up {
			p.Parcels = append(p.Parcels, parcel(x*up+y+1, "A", x, y, x+1, y, x+1, y+1, x, y+1))
		}
	}
	for x := range along {
		p.Outer = append(p.Outer, at(x, 0))
	}
	for y := range up {
		p.Outer = append(p.Outer, at(along, y))
	}
	for x := range along {
		p.Outer = append(p.Outer, at(along-x, up))
	}
	for y := range up {
		p.Outer = append(p.Outer, at(0, up-y))
	}
	return p
}

// alike are so many borders of so many edges.
func alike(borders, edges int) []int {
	return slices.Repeat([]int{edges}, borders)
}

func corners(p api.Plan) int {
	count := len(p.Outer)
	for _, one := range p.Parcels {
		count += len(one.Ring)
	}
	return count
}

// large are plans at the limits.
func large() map[string]api.Plan {
	long := strings.Repeat("~", api.MaxOwner)
	p := columns("", 1, 61, 61, 62, 61, 62, 61, 62, 62, 1)
	return map[string]api.Plan{
		"as many parcels":   slab(16, 4),
		"strips":            columns(long, alike(63, 1)...),
		"as long rings":     columns(" ", alike(2, 63)...),
		"as many corners":   p,
		"two corners fewer": columns(long, 1, 61, 61, 62, 61, 62, 61, 62, 61, 1),
	}
}

// unsound are plans that are not sound, each by a fault of its own.
func unsound(t *testing.T) map[string]api.Plan {
	t.Helper()
	changes := map[string]func(p *api.Plan){
		"nothing":                                func(p *api.Plan) { *p = api.Plan{} },
		"no parcels":                             func(p *api.Plan) { p.Parcels = nil },
		"no territory":                           func(p *api.Plan) { p.Outer = nil },
		"an ID of 0":                             func(p *api.Plan) { p.Parcels[0].ID = 0 },
		"an ID below 0":                          func(p *api.Plan) { p.Parcels[0].ID = -1 },
		"an ID beyond MaxID":                     func(p *api.Plan) { p.Parcels[3].ID = api.MaxID + 1 },
		"an ID of all bits":                      func(p *api.Plan) { p.Parcels[3].ID = 1<<32 - 1 },
		"an ID of five bytes":                    func(p *api.Plan) { p.Parcels[3].ID = 1<<32 + 77 },
		"an ID twice":                            func(p *api.Plan) { p.Parcels[0].ID = p.Parcels[1].ID },
		"IDs that fall":                          func(p *api.Plan) { p.Parcels[0], p.Parcels[1] = p.Parcels[1], p.Parcels[0] },
		"IDs that fall at the end":               func(p *api.Plan) { p.Parcels[2], p.Parcels[3] = p.Parcels[3], p.Parcels[2] },
		"an owner too long":                      func(p *api.Plan) { p.Parcels[3].Owner = strings.Repeat("a", 33) },
		"an owner with a byte below 32":          func(p *api.Plan) { p.Parcels[0].Owner = "a\x1f" },
		"an owner with a byte above 126":         func(p *api.Plan) { p.Parcels[1].Owner = "\x7f" },
		"an owner that is no UTF-8":              func(p *api.Plan) { p.Parcels[2].Owner = "\xff" },
		"a parcel lacking":                       func(p *api.Plan) { p.Parcels = p.Parcels[:3] },
		"the first parcel lacking":               func(p *api.Plan) { p.Parcels = p.Parcels[1:] },
		"a territory begun elsewhere":            func(p *api.Plan) { p.Outer = slices.Concat(p.Outer[1:], p.Outer[:1]) },
		"a ring begun elsewhere":                 func(p *api.Plan) { r := &p.Parcels[2].Ring; *r = slices.Concat((*r)[3:], (*r)[:3]) },
		"a territory turned round":               func(p *api.Plan) { slices.Reverse(p.Outer[1:]) },
		"a ring turned round":                    func(p *api.Plan) { slices.Reverse(p.Parcels[1].Ring[1:]) },
		"a ring with its first corner once more": func(p *api.Plan) { p.Parcels[1].Ring = append(p.Parcels[1].Ring, p.Parcels[1].Ring[0]) },
		"a ring of two corners":                  func(p *api.Plan) { p.Parcels[1].Ring = p.Parcels[1].Ring[:2] },
		"a ring of none":                         func(p *api.Plan) { p.Parcels[3].Ring = nil },
		"a corner that the neighbours lack":      func(p *api.Plan) { p.Parcels[0].Ring = of(0, 0, 2, 0, 2, 1, 2, 2, 0, 2) },
		"a corner lacking":                       func(p *api.Plan) { p.Outer = of(0, 0, 4, 0, 4, 2, 4, 4, 2, 4, 0, 4, 0, 2) },
		"a corner elsewhere":                     func(p *api.Plan) { p.Parcels[0].Ring[2] = at(1, 1) },
		"a corner that is not Good":              func(p *api.Plan) { p.Outer[4], p.Parcels[3].Ring[2] = at(limit+1, limit+1), at(limit+1, limit+1) },
		"a corner far from Good":                 func(p *api.Plan) { p.Outer[4], p.Parcels[3].Ring[2] = at(3*limit-1, 4), at(3*limit-1, 4) },
		"a parcel of another place":              func(p *api.Plan) { p.Parcels[0].Ring = of(10, 0, 12, 0, 12, 2, 10, 2) },
		"a parcel on another":                    func(p *api.Plan) { p.Parcels[1].Ring = slices.Clone(p.Parcels[0].Ring) },
	}
	plans := map[string]api.Plan{
		"one parcel more than MaxParcels": slab(13, 5),
		"a ring of more than MaxPoints":   columns("", 64, 63),
		"more than MaxCorners":            columns("", 1, 61, 61, 62, 61, 62, 61, 62, 62, 2),
		"one corner too many of one":      ofCorners(api.MaxPoints + 1),
		"rings of thousands":              ofCorners(5000),
	}
	for name, change := range changes {
		p := copied(crossroads())
		change(&p)
		plans[name] = p
	}
	for name, p := range plans {
		if plan.Check(p) != api.ErrForm {
			t.Fatalf("%s: a sound plan", name)
		}
	}
	return plans
}

// brief is something to be shown, cut where it is long.
func brief(what any) string {
	text := strings.ToValidUTF8(fmt.Sprintf("%+v", what), "?")
	if len(text) > 600 {
		return text[:450] + " .. " + text[len(text)-80:]
	}
	return text
}
