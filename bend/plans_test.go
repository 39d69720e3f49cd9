package bend_test

import (
	"slices"
	"strings"

	"merestone/api"
)

const limit = api.MaxCoord

func at(x, y int) api.Point { return api.Point{X: x, Y: y} }

// of makes a ring of numbers: X and Y of one point after the other.
func of(numbers ...int) api.Ring {
	var r api.Ring
	for pair := range slices.Chunk(numbers, 2) {
		r = append(r, at(pair[0], pair[1]))
	}
	return r
}

func parcel(id int, owner string, corners ...int) api.Parcel {
	return api.Parcel{ID: id, Ring: of(corners...), Owner: owner}
}

func lay(outer api.Ring, list ...api.Parcel) api.Plan {
	return api.Plan{Outer: outer, Parcels: list}
}

func copied(p api.Plan) api.Plan {
	other := lay(slices.Clone(p.Outer), slices.Clone(p.Parcels)...)
	for i := range other.Parcels {
		other.Parcels[i].Ring = slices.Clone(p.Parcels[i].Ring)
	}
	return other
}

func equal(p, q api.Plan) bool {
	return slices.Equal(p.Outer, q.Outer) && slices.EqualFunc(p.Parcels, q.Parcels, func(a, b api.Parcel) bool {
		return a.ID == b.ID && a.Owner == b.Owner && slices.Equal(a.Ring, b.Ring)
	})
}

func rings(p api.Plan) []api.Ring {
	list := []api.Ring{p.Outer}
	for _, parcel := range p.Parcels {
		list = append(list, parcel.Ring)
	}
	return list
}

// least begins any ring at its least corner.
func least(r api.Ring) api.Ring {
	first := 0
	for i, p := range r {
		if p.X < r[first].X || p.X == r[first].X && p.Y < r[first].Y {
			first = i
		}
	}
	return slices.Concat(r[first:], r[:first])
}

// each answers a plan with all rings changed, begun at their least corners.
func each(p api.Plan, change func(api.Ring) api.Ring) api.Plan {
	changed := lay(least(change(p.Outer)))
	for _, parcel := range p.Parcels {
		parcel.Ring = least(change(parcel.Ring))
		changed.Parcels = append(changed.Parcels, parcel)
	}
	return changed
}

// A view lays the plane down elsewhere. Where it is mirrored, left and right change places, so that rings run the other way round.
type view struct {
	name     string
	mirrored bool
	to       func(api.Point) api.Point
}

func views() []view {
	far := limit / 16
	return []view{
		{"as it is", false, func(p api.Point) api.Point { return p }},
		{"turned once", false, func(p api.Point) api.Point { return at(-p.Y, p.X) }},
		{"turned twice", false, func(p api.Point) api.Point { return at(-p.X, -p.Y) }},
		{"turned thrice", false, func(p api.Point) api.Point { return at(p.Y, -p.X) }},
		{"left and right", true, func(p api.Point) api.Point { return at(-p.X, p.Y) }},
		{"above and below", true, func(p api.Point) api.Point { return at(p.X, -p.Y) }},
		{"X and Y", true, func(p api.Point) api.Point { return at(p.Y, p.X) }},
		{"around the middle", false, func(p api.Point) api.Point { return at(p.X-2, p.Y-2) }},
		{"slanted", false, func(p api.Point) api.Point { return at(2*p.X+p.Y, p.X+3*p.Y) }},
		{"slanted, mirrored", true, func(p api.Point) api.Point { return at(3*p.X-2*p.Y, p.X-5*p.Y) }},
		{"drawn out", false, func(p api.Point) api.Point { return at(far*p.X, far*p.Y) }},
		{"at a corner of all that is Good", false, func(p api.Point) api.Point { return at(p.X+limit-30, p.Y-limit+30) }},
	}
}

func (v view) plan(p api.Plan) api.Plan {
	return each(p, func(r api.Ring) api.Ring {
		var moved api.Ring
		for _, p := range r {
			moved = append(moved, v.to(p))
		}
		if v.mirrored {
			slices.Reverse(moved)
		}
		return moved
	})
}

// doubled has room for points between those of the grid.
func doubled(p api.Plan) api.Plan {
	return view{to: func(p api.Point) api.Point { return at(2*p.X, 2*p.Y) }}.plan(p)
}

// drawn makes a plan of a drawing, the lowest row last: a cell of a letter is the parcel's of that number (a: 1), a blank is outside. Each point of the grid along a border is a corner. It answers false, if a parcel or the territory is not one piece without a hole, or touches itself.
func drawn(rows ...string) (api.Plan, bool) {
	cells := map[api.Point]rune{}
	for i, row := range rows {
		for x, c := range row {
			if c != ' ' {
				cells[at(x, len(rows)-1-i)] = c
			}
		}
	}
	outer, ok := traced(cells, func(rune) bool { return true })
	p := lay(outer)
	for c := 'a'; c <= 'z' && ok; c++ {
		if !strings.ContainsRune(strings.Join(rows, ""), c) {
			continue
		}
		var r api.Ring
		r, ok = traced(cells, func(other rune) bool { return other == c })
		p.Parcels = append(p.Parcels, api.Parcel{ID: int(c - 'a' + 1), Ring: r, Owner: string(c)})
	}
	return p, ok
}

// draw is drawn for a drawing that has a plan.
func draw(rows ...string) api.Plan {
	p, ok := drawn(rows...)
	if !ok {
		panic("no plan: " + strings.Join(rows, "|"))
	}
	return p
}

// traced answers the way around the cells of a kind.
func traced(cells map[api.Point]rune, kind func(rune) bool) (api.Ring, bool) {
	has := func(x, y int) bool { c, there := cells[at(x, y)]; return there && kind(c) }
	next, edges, first := map[api.Point]api.Point{}, 0, api.Point{}
	step := func(beside bool, from, to api.Point) {
		if !beside {
			next[from], first = to, from
			edges++
		}
	}
	for p := range cells {
		if x, y := p.X, p.Y; has(x, y) {
			step(has(x, y-1), at(x, y), at(x+1, y))
			step(has(x+1, y), at(x+1, y), at(x+1, y+1))
			step(has(x, y+1), at(x+1, y+1), at(x, y+1))
			step(has(x-1, y), at(x, y+1), at(x, y))
		}
	}
	r := api.Ring{first}
	for len(r) <= edges && next[r[len(r)-1]] != first {
		r = append(r, next[r[len(r)-1]])
	}
	return least(r), len(r) == edges && edges > 0
}

// thinned leaves out each corner that may be cleared.
func thinned(p api.Plan) api.Plan {
	for _, corner := range slices.Concat(rings(p)...) {
		if d := clearing(p, corner); d.fault() == api.OK {
			p = d.after()
		}
	}
	return p
}

// square is a territory of one parcel.
func square() api.Plan {
	return lay(of(0, 0, 4, 0, 4, 4, 0, 4), parcel(5, "Ann", 0, 0, 4, 0, 4, 4, 0, 4))
}

// halves is that square in two, side by side.
func halves() api.Plan {
	return lay(of(0, 0, 2, 0, 4, 0, 4, 4, 2, 4, 0, 4),
		parcel(3, "Ann", 0, 0, 2, 0, 2, 4, 0, 4),
		parcel(7, "Bob", 2, 0, 4, 0, 4, 4, 2, 4))
}

// marked is halves with a corner in the middle of their border.
func marked() api.Plan {
	return lay(of(0, 0, 2, 0, 4, 0, 4, 4, 2, 4, 0, 4),
		parcel(3, "Ann", 0, 0, 2, 0, 2, 2, 2, 4, 0, 4),
		parcel(7, "Bob", 2, 0, 4, 0, 4, 4, 2, 4, 2, 2))
}

// bent is marked with that corner in the land of the second one.
func bent() api.Plan {
	return lay(of(0, 0, 2, 0, 4, 0, 4, 4, 2, 4, 0, 4),
		parcel(3, "Ann", 0, 0, 2, 0, 3, 2, 2, 4, 0, 4),
		parcel(7, "Bob", 2, 0, 4, 0, 4, 4, 2, 4, 3, 2))
}

// three is one below two that are side by side: the point (2, 2) is a corner of all, in line in the first alone.
func three() api.Plan {
	return lay(of(0, 0, 4, 0, 4, 2, 4, 4, 2, 4, 0, 4, 0, 2),
		parcel(2, "Ann", 0, 0, 4, 0, 4, 2, 2, 2, 0, 2),
		parcel(4, "Bob", 0, 2, 2, 2, 2, 4, 0, 4),
		parcel(6, "Cid", 2, 2, 4, 2, 4, 4, 2, 4))
}

// crossroads is the square in four, with one point in common.
func crossroads() api.Plan {
	return lay(of(0, 0, 2, 0, 4, 0, 4, 2, 4, 4, 2, 4, 0, 4, 0, 2),
		parcel(2, "Ann", 0, 0, 2, 0, 2, 2, 0, 2),
		parcel(4, "Bob", 2, 0, 4, 0, 4, 2, 2, 2),
		parcel(6, "Cid", 0, 2, 2, 2, 2, 4, 0, 4),
		parcel(8, "Dee", 2, 2, 4, 2, 4, 4, 2, 4))
}

// star is the square in six, with one point in common.
func star() api.Plan {
	return lay(of(0, 0, 2, 0, 4, 0, 4, 4, 2, 4, 0, 4),
		parcel(1, "Ann", 0, 0, 2, 0, 2, 2), parcel(2, "Bob", 2, 0, 4, 0, 2, 2), parcel(3, "Cid", 2, 2, 4, 0, 4, 4),
		parcel(4, "Dee", 2, 2, 4, 4, 2, 4), parcel(5, "Eve", 0, 4, 2, 2, 2, 4), parcel(6, "Fay", 0, 0, 2, 2, 0, 4))
}

// tent is a triangle whose upper corner two others have, and one below all three.
func tent() api.Plan {
	return lay(of(0, 0, 8, 0, 8, 4, 8, 8, 0, 8, 0, 4),
		parcel(1, "Ann", 0, 0, 8, 0, 8, 4, 6, 4, 2, 4, 0, 4),
		parcel(2, "Bob", 2, 4, 6, 4, 4, 6),
		parcel(3, "Cid", 0, 4, 2, 4, 4, 6, 6, 4, 8, 4, 8, 8, 0, 8))
}

// zigzag is two with a border of five edges.
func zigzag() api.Plan {
	return lay(of(0, 0, 2, 0, 6, 0, 6, 6, 4, 6, 0, 6),
		parcel(4, "Ann", 0, 0, 2, 0, 3, 1, 2, 2, 4, 3, 3, 4, 4, 6, 0, 6),
		parcel(9, "Bob", 2, 0, 6, 0, 6, 6, 4, 6, 3, 4, 4, 3, 2, 2, 3, 1))
}

// island is one that another lies round on three sides, with room beside it.
func island() api.Plan {
	return lay(of(0, 0, 8, 0, 8, 8, 6, 8, 2, 8, 0, 8),
		parcel(2, "Ann", 0, 0, 8, 0, 8, 8, 6, 8, 5, 3, 3, 3, 2, 8, 0, 8),
		parcel(4, "Bob", 2, 8, 3, 3, 5, 3, 6, 8))
}

// bands is marked with a third one beside the second.
func bands() api.Plan {
	return lay(of(0, 0, 2, 0, 4, 0, 6, 0, 6, 4, 4, 4, 2, 4, 0, 4),
		parcel(3, "Ann", 0, 0, 2, 0, 2, 2, 2, 4, 0, 4),
		parcel(7, "Bob", 2, 0, 4, 0, 4, 4, 2, 4, 2, 2),
		parcel(8, "Cid", 4, 0, 6, 0, 6, 4, 4, 4))
}

// creek is two with a border that winds.
func creek() api.Plan {
	return lay(of(0, 0, 4, 0, 8, 0, 8, 8, 4, 8, 0, 8),
		parcel(1, "Ann", 0, 0, 4, 0, 2, 2, 6, 3, 4, 4, 2, 6, 4, 8, 0, 8),
		parcel(2, "Bob", 2, 2, 4, 0, 8, 0, 8, 8, 4, 8, 2, 6, 4, 4, 6, 3))
}

// vee is one below a notch of the territory, as wide as that, and one around it.
func vee() api.Plan {
	return lay(of(0, 0, 8, 0, 8, 8, 6, 8, 4, 4, 2, 8, 0, 8),
		parcel(1, "Ann", 0, 0, 8, 0, 8, 8, 6, 8, 4, 2, 2, 8, 0, 8),
		parcel(2, "Bob", 2, 8, 4, 2, 6, 8, 4, 4))
}
