package cut_test

import (
	"slices"
	"strings"

	"merestone/api"
	"merestone/ring"
)

const limit = api.MaxCoord

func at(x, y int) api.Point { return api.Point{X: x, Y: y} }

// of makes a ring, or a path, of numbers: X and Y of one point after the other.
func of(numbers ...int) api.Ring {
	var r api.Ring
	for pair := range slices.Chunk(numbers, 2) {
		r = append(r, at(pair[0], pair[1]))
	}
	return r
}

func parcel(id int, owner string, corners ...int) api.Parcel {
	return api.Parcel{ID: id, Ring: of(corners...), Owner: owner}
}

func lay(outer api.Ring, list ...api.Parcel) api.Plan {
	return api.Plan{Outer: outer, Parcels: list}
}

func copied(p api.Plan) api.Plan {
	other := lay(slices.Clone(p.Outer), slices.Clone(p.Parcels)...)
	for i := range other.Parcels {
		other.Parcels[i].Ring = slices.Clone(p.Parcels[i].Ring)
	}
	return other
}

func equal(p, q api.Plan) bool {
	return slices.Equal(p.Outer, q.Outer) && slices.EqualFunc(p.Parcels, q.Parcels, func(a, b api.Parcel) bool {
		return a.ID == b.ID && a.Owner == b.Owner && slices.Equal(a.Ring, b.Ring)
	})
}

// least begins any ring at its least corner.
func least(r api.Ring) api.Ring {
	first := 0
	for i, p := range r {
		if p.X < r[first].X || p.X == r[first].X && p.Y < r[first].Y {
			first = i
		}
	}
	return slices.Concat(r[first:], r[:first])
}

// A view lays the plane down elsewhere. Where it is mirrored, left and right change places, so that rings and paths run the other way round.
type view struct {
	name     string
	mirrored bool
	to       func(api.Point) api.Point
}

func views() []view {
	far := limit / 16
	return []view{
		{"as it is", false, func(p api.Point) api.Point { return p }},
		{"turned once", false, func(p api.Point) api.Point { return at(-p.Y, p.X) }},
		{"turned twice", false, func(p api.Point) api.Point { return at(-p.X, -p.Y) }},
		{"turned thrice", false, func(p api.Point) api.Point { return at(p.Y, -p.X) }},
		{"left and right", true, func(p api.Point) api.Point { return at(-p.X, p.Y) }},
		{"above and below", true, func(p api.Point) api.Point { return at(p.X, -p.Y) }},
		{"X and Y", true, func(p api.Point) api.Point { return at(p.Y, p.X) }},
		{"slanted", false, func(p api.Point) api.Point { return at(2*p.X+p.Y, p.X+3*p.Y) }},
		{"slanted, mirrored", true, func(p api.Point) api.Point { return at(3*p.X-2*p.Y, p.X-5*p.Y) }},
		{"drawn out", false, func(p api.Point) api.Point { return at(far*p.X, far*p.Y) }},
		{"at a corner of all that is Good", false, func(p api.Point) api.Point { return at(p.X+limit-30, p.Y-limit+30) }},
	}
}

func (v view) path(path api.Ring) api.Ring {
	var moved api.Ring
	for _, p := range path {
		moved = append(moved, v.to(p))
	}
	if v.mirrored {
		slices.Reverse(moved)
	}
	return moved
}

func (v view) plan(p api.Plan) api.Plan {
	moved := lay(least(v.path(p.Outer)))
	for _, parcel := range p.Parcels {
		parcel.Ring = least(v.path(parcel.Ring))
		moved.Parcels = append(moved.Parcels, parcel)
	}
	return moved
}

// square is a territory of one parcel.
func square() api.Plan {
	return lay(of(0, 0, 4, 0, 4, 4, 0, 4), parcel(5, "Ann", 0, 0, 4, 0, 4, 4, 0, 4))
}

// halves is that square in two, side by side.
func halves() api.Plan {
	return lay(of(0, 0, 2, 0, 4, 0, 4, 4, 2, 4, 0, 4),
		parcel(3, "Ann", 0, 0, 2, 0, 2, 4, 0, 4),
		parcel(7, "Bob", 2, 0, 4, 0, 4, 4, 2, 4))
}

// bands is three side by side: the one in the middle has most of its border in common with the others.
func bands() api.Plan {
	return lay(of(0, 0, 2, 0, 4, 0, 6, 0, 6, 4, 4, 4, 2, 4, 0, 4),
		parcel(2, "Ann", 0, 0, 2, 0, 2, 4, 0, 4),
		parcel(4, "Bob", 2, 0, 4, 0, 4, 4, 2, 4),
		parcel(6, "Cid", 4, 0, 6, 0, 6, 4, 4, 4))
}

// crossroads is the square in four, with one point in common.
func crossroads() api.Plan {
	return lay(of(0, 0, 2, 0, 4, 0, 4, 2, 4, 4, 2, 4, 0, 4, 0, 2),
		parcel(2, "Ann", 0, 0, 2, 0, 2, 2, 0, 2),
		parcel(4, "Bob", 2, 0, 4, 0, 4, 2, 2, 2),
		parcel(6, "Cid", 0, 2, 2, 2, 2, 4, 0, 4),
		parcel(8, "Dee", 2, 2, 4, 2, 4, 4, 2, 4))
}

// bay is one on three sides of another.
func bay() api.Plan {
	return lay(of(0, 0, 6, 0, 6, 4, 4, 4, 2, 4, 0, 4),
		parcel(2, "Ann", 0, 0, 6, 0, 6, 4, 4, 4, 4, 2, 2, 2, 2, 4, 0, 4),
		parcel(4, "Bob", 2, 2, 4, 2, 4, 4, 2, 4))
}

// rhombs is a rhomb beside a triangle: borders that slant.
func rhombs() api.Plan {
	return lay(of(0, 2, 2, 0, 5, 1, 4, 2, 2, 4),
		parcel(3, "Ann", 0, 2, 2, 0, 4, 2, 2, 4),
		parcel(5, "Bob", 2, 0, 5, 1, 4, 2))
}

// A named split has a plan that is wanted; none, where ErrCross is.
type named struct {
	name string
	deed
	want api.Plan
}

func wanted(name string, p api.Plan, id int, path api.Ring, fresh int, outer api.Ring, list ...api.Parcel) named {
	return named{name, deed{p, id, path, fresh}, lay(outer, list...)}
}

// splits are ends at corners and on edges, each part corner by corner.
func splits() []named {
	plain := of(0, 0, 4, 0, 4, 4, 0, 4)
	return slices.Concat(sameEdge(), beside(), orders(), []named{
		wanted("from edge to edge", square(), 5, of(2, 0, 2, 4), 2, of(0, 0, 2, 0, 4, 0, 4, 4, 2, 4, 0, 4),
			parcel(2, "Ann", 0, 0, 2, 0, 2, 4, 0, 4), parcel(5, "Ann", 2, 0, 4, 0, 4, 4, 2, 4)),
		wanted("from edge to edge, back", square(), 5, of(2, 4, 2, 0), 2, of(0, 0, 2, 0, 4, 0, 4, 4, 2, 4, 0, 4),
			parcel(2, "Ann", 2, 0, 4, 0, 4, 4, 2, 4), parcel(5, "Ann", 0, 0, 2, 0, 2, 4, 0, 4)),
		wanted("from corner to corner", square(), 5, of(0, 0, 4, 4), 2, plain,
			parcel(2, "Ann", 0, 0, 4, 4, 0, 4), parcel(5, "Ann", 0, 0, 4, 0, 4, 4)),
		wanted("from corner to corner, back", square(), 5, of(4, 4, 0, 0), 2, plain,
			parcel(2, "Ann", 0, 0, 4, 0, 4, 4), parcel(5, "Ann", 0, 0, 4, 4, 0, 4)),
		wanted("from a corner to an edge", square(), 5, of(0, 0, 4, 1), 2, of(0, 0, 4, 0, 4, 1, 4, 4, 0, 4),
			parcel(2, "Ann", 0, 0, 4, 1, 4, 4, 0, 4), parcel(5, "Ann", 0, 0, 4, 0, 4, 1)),
		wanted("from an edge to a corner", square(), 5, of(3, 0, 4, 4), 9, of(0, 0, 3, 0, 4, 0, 4, 4, 0, 4),
			parcel(5, "Ann", 3, 0, 4, 0, 4, 4), parcel(9, "Ann", 0, 0, 3, 0, 4, 4, 0, 4)),
		wanted("from edge to edge with two points within", square(), 5, of(1, 0, 1, 2, 3, 2, 3, 4), 2, of(0, 0, 1, 0, 4, 0, 4, 4, 3, 4, 0, 4),
			parcel(2, "Ann", 0, 0, 1, 0, 1, 2, 3, 2, 3, 4, 0, 4), parcel(5, "Ann", 1, 0, 4, 0, 4, 4, 3, 4, 3, 2, 1, 2)),
		wanted("along a line with points on it", square(), 5, of(0, 1, 1, 1, 3, 1, 4, 1), 2, of(0, 0, 4, 0, 4, 1, 4, 4, 0, 4, 0, 1),
			parcel(2, "Ann", 0, 1, 1, 1, 3, 1, 4, 1, 4, 4, 0, 4), parcel(5, "Ann", 0, 0, 4, 0, 4, 1, 3, 1, 1, 1, 0, 1)),
		wanted("round about", square(), 5, of(0, 1, 3, 1, 3, 3, 1, 3, 1, 2, 0, 2), 2, of(0, 0, 4, 0, 4, 4, 0, 4, 0, 2, 0, 1),
			parcel(2, "Ann", 0, 1, 3, 1, 3, 3, 1, 3, 1, 2, 0, 2), parcel(5, "Ann", 0, 0, 4, 0, 4, 4, 0, 4, 0, 2, 1, 2, 1, 3, 3, 3, 3, 1, 0, 1)),
		wanted("from a corner on a straight line", halves(), 3, of(2, 0, 0, 2), 5, of(0, 0, 2, 0, 4, 0, 4, 4, 2, 4, 0, 4, 0, 2),
			parcel(3, "Ann", 0, 2, 2, 0, 2, 4, 0, 4), parcel(5, "Ann", 0, 0, 2, 0, 0, 2), parcel(7, "Bob", 2, 0, 4, 0, 4, 4, 2, 4)),
		wanted("across borders that slant", rhombs(), 3, of(1, 1, 3, 3), 4, of(0, 2, 1, 1, 2, 0, 5, 1, 4, 2, 3, 3, 2, 4),
			parcel(3, "Ann", 1, 1, 2, 0, 4, 2, 3, 3), parcel(4, "Ann", 0, 2, 1, 1, 3, 3, 2, 4), parcel(5, "Bob", 2, 0, 5, 1, 4, 2)),
	})
}

// sameEdge are both ends on one edge, in both orders as its ring runs.
func sameEdge() []named {
	low, last := of(0, 0, 1, 0, 3, 0, 4, 0, 4, 4, 0, 4), of(0, 0, 4, 0, 4, 4, 0, 4, 0, 3, 0, 1)
	half, plain := of(0, 0, 2, 0, 4, 0, 4, 4, 0, 4), of(0, 0, 4, 0, 4, 4, 0, 4)
	return []named{
		wanted("an edge, the first end ahead", square(), 5, of(1, 0, 1, 2, 3, 2, 3, 0), 2, low,
			parcel(2, "Ann", 0, 0, 1, 0, 1, 2, 3, 2, 3, 0, 4, 0, 4, 4, 0, 4), parcel(5, "Ann", 1, 0, 3, 0, 3, 2, 1, 2)),
		wanted("an edge, the last end ahead", square(), 5, of(3, 0, 3, 2, 1, 2, 1, 0), 2, low,
			parcel(2, "Ann", 1, 0, 3, 0, 3, 2, 1, 2), parcel(5, "Ann", 0, 0, 1, 0, 1, 2, 3, 2, 3, 0, 4, 0, 4, 4, 0, 4)),
		wanted("the ring's last edge, the first end ahead", square(), 5, of(0, 3, 1, 3, 1, 1, 0, 1), 2, last,
			parcel(2, "Ann", 0, 0, 4, 0, 4, 4, 0, 4, 0, 3, 1, 3, 1, 1, 0, 1), parcel(5, "Ann", 0, 1, 1, 1, 1, 3, 0, 3)),
		wanted("the ring's last edge, the last end ahead", square(), 5, of(0, 1, 1, 1, 1, 3, 0, 3), 2, last,
			parcel(2, "Ann", 0, 1, 1, 1, 1, 3, 0, 3), parcel(5, "Ann", 0, 0, 4, 0, 4, 4, 0, 4, 0, 3, 1, 3, 1, 1, 0, 1)),
		wanted("an edge and its first corner", square(), 5, of(0, 0, 1, 1, 2, 0), 2, half,
			parcel(2, "Ann", 0, 0, 1, 1, 2, 0, 4, 0, 4, 4, 0, 4), parcel(5, "Ann", 0, 0, 2, 0, 1, 1)),
		wanted("an edge and its first corner, back", square(), 5, of(2, 0, 1, 1, 0, 0), 2, half,
			parcel(2, "Ann", 0, 0, 2, 0, 1, 1), parcel(5, "Ann", 0, 0, 1, 1, 2, 0, 4, 0, 4, 4, 0, 4)),
		wanted("an edge and its last corner", square(), 5, of(2, 0, 3, 1, 4, 0), 2, half,
			parcel(2, "Ann", 0, 0, 2, 0, 3, 1, 4, 0, 4, 4, 0, 4), parcel(5, "Ann", 2, 0, 4, 0, 3, 1)),
		wanted("both corners of an edge", square(), 5, of(0, 0, 2, 1, 4, 0), 2, plain,
			parcel(2, "Ann", 0, 0, 2, 1, 4, 0, 4, 4, 0, 4), parcel(5, "Ann", 0, 0, 4, 0, 2, 1)),
		wanted("both corners of an edge, back", square(), 5, of(4, 0, 2, 1, 0, 0), 2, plain,
			parcel(2, "Ann", 0, 0, 4, 0, 2, 1), parcel(5, "Ann", 0, 0, 2, 1, 4, 0, 4, 4, 0, 4)),
		wanted("both corners of the ring's last edge", square(), 5, of(0, 4, 1, 2, 0, 0), 2, plain,
			parcel(2, "Ann", 0, 0, 4, 0, 4, 4, 0, 4, 1, 2), parcel(5, "Ann", 0, 0, 1, 2, 0, 4)),
	}
}

// beside are ends on edges that others have too.
func beside() []named {
	outer := of(0, 0, 2, 0, 4, 0, 4, 4, 2, 4, 0, 4)
	notched := parcel(7, "Bob", 2, 0, 4, 0, 4, 4, 2, 4, 2, 3, 2, 1)
	return []named{
		wanted("from another one's border to the territory's", halves(), 7, of(2, 2, 4, 2), 5, of(0, 0, 2, 0, 4, 0, 4, 2, 4, 4, 2, 4, 0, 4),
			parcel(3, "Ann", 0, 0, 2, 0, 2, 2, 2, 4, 0, 4), parcel(5, "Bob", 2, 2, 4, 2, 4, 4, 2, 4), parcel(7, "Bob", 2, 0, 4, 0, 4, 2, 2, 2)),
		wanted("from the territory's border to another one's", halves(), 3, of(0, 3, 2, 1), 5, of(0, 0, 2, 0, 4, 0, 4, 4, 2, 4, 0, 4, 0, 3),
			parcel(3, "Ann", 0, 0, 2, 0, 2, 1, 0, 3), parcel(5, "Ann", 0, 3, 2, 1, 2, 4, 0, 4), parcel(7, "Bob", 2, 0, 4, 0, 4, 4, 2, 4, 2, 1)),
		wanted("an edge that another has, the first end ahead", halves(), 3, of(2, 1, 1, 1, 1, 3, 2, 3), 5, outer,
			parcel(3, "Ann", 1, 1, 2, 1, 2, 3, 1, 3), parcel(5, "Ann", 0, 0, 2, 0, 2, 1, 1, 1, 1, 3, 2, 3, 2, 4, 0, 4), notched),
		wanted("an edge that another has, the last end ahead", halves(), 3, of(2, 3, 1, 3, 1, 1, 2, 1), 5, outer,
			parcel(3, "Ann", 0, 0, 2, 0, 2, 1, 1, 1, 1, 3, 2, 3, 2, 4, 0, 4), parcel(5, "Ann", 1, 1, 2, 1, 2, 3, 1, 3), notched),
		wanted("both corners of an edge that another has", halves(), 7, of(2, 0, 3, 2, 2, 4), 5, outer,
			parcel(3, "Ann", 0, 0, 2, 0, 2, 4, 0, 4), parcel(5, "Bob", 2, 0, 3, 2, 2, 4), parcel(7, "Bob", 2, 0, 4, 0, 4, 4, 2, 4, 3, 2)),
		wanted("from one beside to the other", bands(), 4, of(2, 1, 4, 3), 5, bands().Outer,
			parcel(2, "Ann", 0, 0, 2, 0, 2, 1, 2, 4, 0, 4), parcel(4, "Bob", 2, 0, 4, 0, 4, 3, 2, 1),
			parcel(5, "Bob", 2, 1, 4, 3, 4, 4, 2, 4), parcel(6, "Cid", 4, 0, 6, 0, 6, 4, 4, 4, 4, 3)),
		wanted("along the bands: two that stand apart", bands(), 4, of(3, 0, 3, 4), 5, of(0, 0, 2, 0, 3, 0, 4, 0, 6, 0, 6, 4, 4, 4, 3, 4, 2, 4, 0, 4),
			bands().Parcels[0], parcel(4, "Bob", 3, 0, 4, 0, 4, 4, 3, 4), parcel(5, "Bob", 2, 0, 3, 0, 3, 4, 2, 4), bands().Parcels[2]),
		wanted("from the corner of four", crossroads(), 2, of(2, 2, 0, 0), 5, crossroads().Outer,
			parcel(2, "Ann", 0, 0, 2, 2, 0, 2), parcel(4, "Bob", 2, 0, 4, 0, 4, 2, 2, 2), parcel(5, "Ann", 0, 0, 2, 0, 2, 2),
			parcel(6, "Cid", 0, 2, 2, 2, 2, 4, 0, 4), parcel(8, "Dee", 2, 2, 4, 2, 4, 4, 2, 4)),
		wanted("beside the corner of four", crossroads(), 8, of(3, 2, 2, 3), 5, crossroads().Outer,
			parcel(2, "Ann", 0, 0, 2, 0, 2, 2, 0, 2), parcel(4, "Bob", 2, 0, 4, 0, 4, 2, 3, 2, 2, 2), parcel(5, "Dee", 2, 2, 3, 2, 2, 3),
			parcel(6, "Cid", 0, 2, 2, 2, 2, 3, 2, 4, 0, 4), parcel(8, "Dee", 2, 3, 3, 2, 4, 2, 4, 4, 2, 4)),
		wanted("to the ground of a bay", bay(), 2, of(3, 0, 3, 2), 3, of(0, 0, 3, 0, 6, 0, 6, 4, 4, 4, 2, 4, 0, 4),
			parcel(2, "Ann", 3, 0, 6, 0, 6, 4, 4, 4, 4, 2, 3, 2), parcel(3, "Ann", 0, 0, 3, 0, 3, 2, 2, 2, 2, 4, 0, 4),
			parcel(4, "Bob", 2, 2, 3, 2, 4, 2, 4, 4, 2, 4)),
		wanted("around a bay", bay(), 2, of(2, 3, 1, 3, 1, 1, 5, 1, 5, 3, 4, 3), 3, bay().Outer,
			parcel(2, "Ann", 0, 0, 6, 0, 6, 4, 4, 4, 4, 3, 5, 3, 5, 1, 1, 1, 1, 3, 2, 3, 2, 4, 0, 4),
			parcel(3, "Ann", 1, 1, 5, 1, 5, 3, 4, 3, 4, 2, 2, 2, 2, 3, 1, 3), parcel(4, "Bob", 2, 2, 4, 2, 4, 3, 4, 4, 2, 4, 2, 3)),
		wanted("from the corner of a bay", bay(), 2, of(2, 2, 0, 0), 3, bay().Outer,
			parcel(2, "Ann", 0, 0, 2, 2, 2, 4, 0, 4), parcel(3, "Ann", 0, 0, 6, 0, 6, 4, 4, 4, 4, 2, 2, 2), parcel(4, "Bob", 2, 2, 4, 2, 4, 4, 2, 4)),
		wanted("across a border that slants", rhombs(), 5, of(3, 1, 5, 1), 1, of(0, 2, 2, 0, 5, 1, 4, 2, 2, 4),
			parcel(1, "Bob", 3, 1, 5, 1, 4, 2), parcel(3, "Ann", 0, 2, 2, 0, 3, 1, 4, 2, 2, 4), parcel(5, "Bob", 2, 0, 5, 1, 3, 1)),
	}
}

// orders are IDs below, between and above the others, and owners of all kinds.
func orders() []named {
	left, right, other := of(0, 0, 1, 0, 1, 4, 0, 4), of(1, 0, 2, 0, 2, 4, 1, 4), of(2, 0, 4, 0, 4, 4, 2, 4)
	var list []named
	for _, owner := range []string{"", "Ann", " ~", strings.Repeat("x", api.MaxOwner)} {
		for _, fresh := range []int{1, 2, 4, 6, 8, 99, api.MaxID} {
			p := halves()
			p.Parcels[0].Owner = owner
			parcels := []api.Parcel{{ID: 3, Ring: right, Owner: owner}, {ID: 7, Ring: other, Owner: "Bob"}}
			place := len(parcels)
			for i, parcel := range parcels {
				if fresh < parcel.ID {
					place = i
					break
				}
			}
			parcels = slices.Insert(parcels, place, api.Parcel{ID: fresh, Ring: left, Owner: owner})
			list = append(list, wanted("IDs and owners", p, 3, of(1, 0, 1, 4), fresh, of(0, 0, 1, 0, 2, 0, 4, 0, 4, 4, 2, 4, 1, 4, 0, 4), parcels...))
		}
	}
	return list
}

// crossings are paths of which no sound plan comes.
func crossings() []named {
	var list []named
	add := func(p api.Plan, id int, paths map[string]api.Ring) {
		for name, path := range paths {
			list = append(list, named{name: name, deed: deed{p, id, path, 1}}, named{name: name + ", back", deed: deed{p, id, ring.Turned(path), 1}})
		}
	}
	add(square(), 5, map[string]api.Ring{
		"along an edge":                            of(1, 0, 3, 0),
		"along the ring's last edge":               of(0, 1, 0, 3),
		"along a whole edge":                       of(0, 0, 4, 0),
		"along an edge from its corner":            of(0, 0, 2, 0),
		"along an edge with a point on it":         of(1, 0, 2, 0, 3, 0),
		"along two edges":                          of(3, 0, 4, 0, 4, 1),
		"along two whole edges":                    of(0, 0, 4, 0, 4, 4),
		"along nearly all the border":              of(0, 0, 4, 0, 4, 4, 0, 4),
		"along an edge, then in":                   of(1, 0, 3, 0, 3, 2, 4, 2),
		"along an edge as it does not run, and in": of(3, 0, 1, 0, 1, 2, 4, 2),
		"along an edge in the middle of the way":   of(0, 2, 1, 4, 3, 4, 4, 2),
		"through a corner":                         of(2, 0, 4, 4, 0, 2),
		"to an edge and on":                        of(0, 2, 2, 0, 4, 2),
		"to the edge it came from, and on":         of(1, 0, 1, 1, 2, 0, 4, 2),
		"over an edge":                             of(2, 0, 5, 2, 2, 4),
		"over the edge it came from":               of(1, 0, 1, 1, 2, -1, 4, 2),
		"out by the edge it came from, and back":   of(1, 0, 1, 1, 2, -1, 3, 0),
		"outside":                                  of(1, 0, 1, -1, 3, -1, 3, 0),
		"outside from corner to corner":            of(0, 0, 2, -1, 4, 0),
		"outside around a corner":                  of(2, 0, 6, -2, 4, 2),
		"outside all around":                       of(0, 2, -1, 2, -1, -1, 5, -1, 5, 5, -1, 5, -1, 3, 0, 3),
		"out by a corner, and in":                  of(2, 0, 4, 4, 5, 5, 6, 4, 4, 2),
		"out at once, and in by the way":           of(0, 0, -1, 1, 1, 1, 4, 4),
		"in, out and in":                           of(0, 1, 5, 1, 5, 3, 0, 3),
		"over itself":                              of(0, 1, 3, 1, 3, 3, 2, 3, 2, 0),
		"over itself in a loop":                    of(2, 0, 2, 2, 3, 2, 1, 1, 4, 1),
		"to itself":                                of(0, 1, 3, 1, 3, 3, 2, 1, 2, 0),
		"to itself, and back":                      of(0, 1, 3, 1, 3, 3, 2, 1, 1, 3, 0, 3),
		"one point twice":                          of(0, 1, 2, 1, 2, 3, 1, 3, 2, 1, 2, 0),
		"one point twice in a row":                 of(0, 2, 2, 2, 2, 2, 4, 2),
		"the first point twice in a row":           of(0, 2, 0, 2, 4, 2),
		"the last point thrice in a row":           of(0, 2, 4, 2, 4, 2, 4, 2),
		"the first point again":                    of(0, 2, 2, 1, 2, 2, 0, 2, 2, 4),
		"the last point ahead of its turn":         of(0, 2, 4, 2, 3, 3, 2, 3, 4, 2),
		"there and back":                           of(0, 2, 3, 2, 1, 2, 2, 4),
		"there, back and there":                    of(0, 2, 3, 2, 1, 2, 4, 2),
		"one of two ways, and back by the other":   of(0, 2, 1, 1, 2, 2, 1, 3, 0, 2, 4, 3),
	})
	add(halves(), 3, map[string]api.Ring{
		"over another":                              of(0, 1, 3, 2, 0, 3),
		"across another":                            of(2, 1, 4, 1, 4, 3, 2, 3),
		"within another":                            of(2, 1, 3, 1, 3, 3, 2, 3),
		"within another from corner to corner":      of(2, 0, 3, 2, 2, 4),
		"along another's border":                    of(2, 1, 2, 3),
		"along all of another's border":             of(2, 0, 2, 4),
		"along another's border, then in":           of(2, 1, 2, 2, 0, 2),
		"out by a corner, along another and in":     of(0, 2, 2, 0, 3, 0, 2, 2),
		"into another by an edge, back by a corner": of(0, 2, 3, 2, 2, 4, 0, 3),
		"to another's border, and on":               of(0, 1, 2, 2, 0, 3),
		"around another":                            of(2, 0, 2, -1, 5, -1, 5, 5, 2, 5, 2, 4),
	})
	add(bay(), 2, map[string]api.Ring{
		"across a bay":                        of(2, 3, 4, 3),
		"across the mouth of a bay":           of(2, 4, 4, 4),
		"across a bay from edge to edge":      of(0, 3, 6, 3),
		"along the ground of a bay":           of(0, 2, 6, 2),
		"through the corner of a bay":         of(0, 4, 4, 0),
		"to the corner of a bay, and on":      of(0, 1, 2, 2, 4, 0),
		"in a bay":                            of(2, 3, 3, 3, 3, 2),
		"along the border of a bay, then out": of(2, 3, 2, 2, 0, 2),
	})
	return list
}
