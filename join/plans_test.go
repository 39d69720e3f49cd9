package join_test

import (
	"slices"
	"strings"

	"merestone/api"
	"merestone/geo"
)

const limit = api.MaxCoord

func at(x, y int) api.Point { return api.Point{X: x, Y: y} }

// of makes a ring, or a path, of numbers: X and Y of one point after the other.
func of(numbers ...int) api.Ring {
	var r api.Ring
	for pair := range slices.Chunk(numbers, 2) {
		r = append(r, at(pair[0], pair[1]))
	}
	return r
}

func parcel(id int, owner string, corners ...int) api.Parcel {
	return api.Parcel{ID: id, Ring: of(corners...), Owner: owner}
}

func lay(outer api.Ring, list ...api.Parcel) api.Plan {
	return api.Plan{Outer: outer, Parcels: list}
}

func copied(p api.Plan) api.Plan {
	other := lay(slices.Clone(p.Outer), slices.Clone(p.Parcels)...)
	for i := range other.Parcels {
		other.Parcels[i].Ring = slices.Clone(p.Parcels[i].Ring)
	}
	return other
}

func equal(p, q api.Plan) bool {
	return slices.Equal(p.Outer, q.Outer) && slices.EqualFunc(p.Parcels, q.Parcels, func(a, b api.Parcel) bool {
		return a.ID == b.ID && a.Owner == b.Owner && slices.Equal(a.Ring, b.Ring)
	})
}

// least begins any ring at its least corner.
func least(r api.Ring) api.Ring {
	first := 0
	for i, p := range r {
		if p.X < r[first].X || p.X == r[first].X && p.Y < r[first].Y {
			first = i
		}
	}
	return slices.Concat(r[first:], r[:first])
}

// A view lays the plane down elsewhere. Where it is mirrored, left and right change places, so that rings run the other way round.
type view struct {
	name     string
	mirrored bool
	to       func(api.Point) api.Point
}

func views() []view {
	far := limit / 16
	return []view{
		{"as it is", false, func(p api.Point) api.Point { return p }},
		{"turned once", false, func(p api.Point) api.Point { return at(-p.Y, p.X) }},
		{"turned twice", false, func(p api.Point) api.Point { return at(-p.X, -p.Y) }},
		{"turned thrice", false, func(p api.Point) api.Point { return at(p.Y, -p.X) }},
		{"left and right", true, func(p api.Point) api.Point { return at(-p.X, p.Y) }},
		{"above and below", true, func(p api.Point) api.Point { return at(p.X, -p.Y) }},
		{"X and Y", true, func(p api.Point) api.Point { return at(p.Y, p.X) }},
		{"around the middle", false, func(p api.Point) api.Point { return at(p.X-2, p.Y-2) }},
		{"slanted", false, func(p api.Point) api.Point { return at(2*p.X+p.Y, p.X+3*p.Y) }},
		{"slanted, mirrored", true, func(p api.Point) api.Point { return at(3*p.X-2*p.Y, p.X-5*p.Y) }},
		{"drawn out", false, func(p api.Point) api.Point { return at(far*p.X, far*p.Y) }},
		{"at a corner of all that is Good", false, func(p api.Point) api.Point { return at(p.X+limit-30, p.Y-limit+30) }},
	}
}

func (v view) ring(r api.Ring) api.Ring {
	var moved api.Ring
	for _, p := range r {
		moved = append(moved, v.to(p))
	}
	if v.mirrored {
		slices.Reverse(moved)
	}
	return least(moved)
}

func (v view) plan(p api.Plan) api.Plan {
	moved := lay(v.ring(p.Outer))
	for _, parcel := range p.Parcels {
		parcel.Ring = v.ring(parcel.Ring)
		moved.Parcels = append(moved.Parcels, parcel)
	}
	return moved
}

// drawn makes a plan of a drawing, the lowest row last: a cell of a letter is the parcel's of that number (a: 1), a blank is outside. Each point of the grid along a border is a corner. It answers false, if a parcel or the territory is not one piece without a hole, or touches itself.
func drawn(rows ...string) (api.Plan, bool) {
	cells := map[api.Point]rune{}
	for i, row := range rows {
		for x, c := range row {
			if c != ' ' {
				cells[at(x, len(rows)-1-i)] = c
			}
		}
	}
	outer, ok := traced(cells, func(rune) bool { return true })
	p := lay(outer)
	for c := 'a'; c <= 'z' && ok; c++ {
		if !strings.ContainsRune(strings.Join(rows, ""), c) {
			continue
		}
		var r api.Ring
		r, ok = traced(cells, func(other rune) bool { return other == c })
		p.Parcels = append(p.Parcels, api.Parcel{ID: int(c - 'a' + 1), Ring: r, Owner: string(c)})
	}
	return p, ok
}

// draw is drawn for a drawing that has a plan.
func draw(rows ...string) api.Plan {
	p, ok := drawn(rows...)
	if !ok {
		panic("no plan: " + strings.Join(rows, "|"))
	}
	return p
}

// traced answers the way around the cells of a kind.
func traced(cells map[api.Point]rune, kind func(rune) bool) (api.Ring, bool) {
	has := func(x, y int) bool { c, there := cells[at(x, y)]; return there && kind(c) }
	next, edges, first := map[api.Point]api.Point{}, 0, api.Point{}
	step := func(beside bool, from, to api.Point) {
		if !beside {
			next[from], first = to, from
			edges++
		}
	}
	for p := range cells {
		if x, y := p.X, p.Y; has(x, y) {
			step(has(x, y-1), at(x, y), at(x+1, y))
			step(has(x+1, y), at(x+1, y), at(x+1, y+1))
			step(has(x, y+1), at(x+1, y+1), at(x, y+1))
			step(has(x-1, y), at(x, y+1), at(x, y))
		}
	}
	r := api.Ring{first}
	for len(r) <= edges && next[r[len(r)-1]] != first {
		r = append(r, next[r[len(r)-1]])
	}
	return least(r), len(r) == edges && edges > 0
}

func rings(p api.Plan) []api.Ring {
	list := []api.Ring{p.Outer}
	for _, parcel := range p.Parcels {
		list = append(list, parcel.Ring)
	}
	return list
}

// thinned leaves out each corner that lies, in all rings that have it, on the straight line between the same two.
func thinned(p api.Plan) api.Plan {
	thin := copied(p)
	for _, corner := range slices.Concat(rings(p)...) {
		if !idle(thin, corner) {
			continue
		}
		without := func(r api.Ring) api.Ring {
			return least(slices.DeleteFunc(r, func(at api.Point) bool { return at == corner }))
		}
		thin.Outer = without(thin.Outer)
		for i := range thin.Parcels {
			thin.Parcels[i].Ring = without(thin.Parcels[i].Ring)
		}
	}
	return thin
}

func idle(p api.Plan, corner api.Point) bool {
	var beside []api.Point
	for _, r := range rings(p) {
		i := slices.Index(r, corner)
		if i < 0 {
			continue
		}
		a, b := r[(i+len(r)-1)%len(r)], r[(i+1)%len(r)]
		if on, _ := geo.On(a, b, corner); !on || beside != nil && (!slices.Contains(beside, a) || !slices.Contains(beside, b)) {
			return false
		}
		beside = []api.Point{a, b}
	}
	return beside != nil
}

// square is a territory of one parcel.
func square() api.Plan {
	return lay(of(0, 0, 4, 0, 4, 4, 0, 4), parcel(5, "Ann", 0, 0, 4, 0, 4, 4, 0, 4))
}

// halves is that square in two, side by side.
func halves() api.Plan {
	return lay(of(0, 0, 2, 0, 4, 0, 4, 4, 2, 4, 0, 4),
		parcel(3, "Ann", 0, 0, 2, 0, 2, 4, 0, 4),
		parcel(7, "Bob", 2, 0, 4, 0, 4, 4, 2, 4))
}

// bands is three side by side: the first and the last are apart.
func bands() api.Plan {
	return lay(of(0, 0, 2, 0, 4, 0, 6, 0, 6, 4, 4, 4, 2, 4, 0, 4),
		parcel(2, "Ann", 0, 0, 2, 0, 2, 4, 0, 4),
		parcel(4, "Bob", 2, 0, 4, 0, 4, 4, 2, 4),
		parcel(6, "Cid", 4, 0, 6, 0, 6, 4, 4, 4))
}

// crossroads is the square in four, with one point in common.
func crossroads() api.Plan {
	return lay(of(0, 0, 2, 0, 4, 0, 4, 2, 4, 4, 2, 4, 0, 4, 0, 2),
		parcel(2, "Ann", 0, 0, 2, 0, 2, 2, 0, 2),
		parcel(4, "Bob", 2, 0, 4, 0, 4, 2, 2, 2),
		parcel(6, "Cid", 0, 2, 2, 2, 2, 4, 0, 4),
		parcel(8, "Dee", 2, 2, 4, 2, 4, 4, 2, 4))
}

// bay is one on three sides of another.
func bay() api.Plan {
	return lay(of(0, 0, 6, 0, 6, 4, 4, 4, 2, 4, 0, 4),
		parcel(2, "Ann", 0, 0, 6, 0, 6, 4, 4, 4, 4, 2, 2, 2, 2, 4, 0, 4),
		parcel(4, "Bob", 2, 2, 4, 2, 4, 4, 2, 4))
}

// stacked is one on three sides of two, of which the upper one shuts the lower one off from the territory's border.
func stacked() api.Plan {
	return lay(of(0, 0, 8, 0, 8, 6, 6, 6, 2, 6, 0, 6),
		parcel(2, "Ann", 0, 0, 8, 0, 8, 6, 6, 6, 6, 4, 6, 2, 2, 2, 2, 4, 2, 6, 0, 6),
		parcel(4, "Bob", 2, 2, 6, 2, 6, 4, 2, 4),
		parcel(6, "Cid", 2, 4, 6, 4, 6, 6, 2, 6))
}

// trio is one on three sides of three, side by side.
func trio() api.Plan {
	return lay(of(0, 0, 8, 0, 8, 6, 7, 6, 5, 6, 3, 6, 1, 6, 0, 6),
		parcel(1, "Ann", 0, 0, 8, 0, 8, 6, 7, 6, 7, 2, 5, 2, 3, 2, 1, 2, 1, 6, 0, 6),
		parcel(2, "Bob", 1, 2, 3, 2, 3, 6, 1, 6),
		parcel(3, "Cid", 3, 2, 5, 2, 5, 6, 3, 6),
		parcel(4, "Dee", 5, 2, 7, 2, 7, 6, 5, 6))
}

// rhombs is a rhomb beside a triangle: borders that slant.
func rhombs() api.Plan {
	return lay(of(0, 2, 2, 0, 5, 1, 4, 2, 2, 4),
		parcel(3, "Ann", 0, 2, 2, 0, 4, 2, 2, 4),
		parcel(5, "Bob", 2, 0, 5, 1, 4, 2))
}

// fan is three triangles around a point within, and two beside them.
func fan() api.Plan {
	return lay(of(0, 0, 6, 0, 9, 9, 6, 6, 0, 6),
		parcel(1, "Ann", 0, 0, 6, 0, 3, 2), parcel(2, "Bob", 3, 2, 6, 0, 6, 6), parcel(3, "Cid", 0, 6, 3, 2, 6, 6),
		parcel(4, "Dee", 0, 0, 3, 2, 0, 6), parcel(5, "Eve", 6, 0, 9, 9, 6, 6))
}

// sliver is two with both ends of their borders in common, and a third one between them.
func sliver() api.Plan {
	return lay(of(0, 0, 2, 0, 4, 0, 4, 4, 2, 4, 0, 4),
		parcel(1, "Ann", 0, 0, 2, 0, 2, 4, 0, 4),
		parcel(2, "Bob", 2, 0, 4, 0, 4, 4, 2, 4, 3, 2),
		parcel(3, "Cid", 2, 0, 3, 2, 2, 4))
}

// notch is a square with one of its quarters off: they have two edges in common.
func notch() api.Plan {
	return lay(of(0, 0, 4, 0, 4, 4, 2, 4, 0, 4, 0, 2),
		parcel(1, "Ann", 0, 0, 4, 0, 4, 4, 2, 4, 2, 2, 0, 2),
		parcel(2, "Bob", 0, 2, 2, 2, 2, 4, 0, 4))
}

// zigzag is two with a border of five edges.
func zigzag() api.Plan {
	return lay(of(0, 0, 2, 0, 6, 0, 6, 6, 4, 6, 0, 6),
		parcel(4, "Ann", 0, 0, 2, 0, 3, 1, 2, 2, 4, 3, 3, 4, 4, 6, 0, 6),
		parcel(9, "Bob", 2, 0, 6, 0, 6, 6, 4, 6, 3, 4, 4, 3, 2, 2, 3, 1))
}

// straight is two with a border of four edges on one straight line, above a third one that has a corner where they meet.
func straight() api.Plan {
	return lay(of(0, 0, 6, 0, 6, 1, 6, 6, 3, 6, 0, 6, 0, 1),
		parcel(4, "Ann", 0, 1, 3, 1, 3, 2, 3, 3, 3, 5, 3, 6, 0, 6),
		parcel(6, "Bob", 3, 1, 6, 1, 6, 6, 3, 6, 3, 5, 3, 3, 3, 2),
		parcel(8, "Cid", 0, 0, 6, 0, 6, 1, 3, 1, 0, 1))
}

// triangle is two with a border in two parts, and as little between them as can be.
func triangle() api.Plan {
	return lay(of(0, 0, 4, 0, 8, 0, 8, 8, 4, 8, 0, 8),
		parcel(1, "Ann", 0, 0, 4, 0, 4, 2, 4, 6, 4, 8, 0, 8),
		parcel(2, "Bob", 4, 0, 8, 0, 8, 8, 4, 8, 4, 6, 6, 4, 4, 2),
		parcel(3, "Cid", 4, 2, 6, 4, 4, 6))
}

// corner is two with an edge and a corner in common, and a triangle between these.
func corner() api.Plan {
	return lay(of(0, 0, 8, 0, 8, 8, 4, 8, 0, 8),
		parcel(1, "Ann", 0, 0, 4, 2, 4, 6, 4, 8, 0, 8),
		parcel(2, "Bob", 4, 2, 8, 0, 8, 8, 4, 8, 4, 6, 6, 4),
		parcel(3, "Cid", 4, 2, 6, 4, 4, 6),
		parcel(4, "Dee", 0, 0, 8, 0, 4, 2))
}

// A named merge has a plan that is wanted; none, where it is refused.
type named struct {
	name string
	deed
	want api.Plan
}

func wanted(name string, p api.Plan, into, other int, border api.Ring) named {
	want := copied(p)
	for i := range want.Parcels {
		if want.Parcels[i].ID == into {
			want.Parcels[i].Ring = border
		}
	}
	want.Parcels = slices.DeleteFunc(want.Parcels, func(parcel api.Parcel) bool { return parcel.ID == other })
	return named{name, deed{p, into, other}, want}
}

// both is wanted, whichever of the two is named first.
func both(name string, p api.Plan, one, other int, border api.Ring) []named {
	return []named{wanted(name, p, one, other, border), wanted(name+", the other one first", p, other, one, border)}
}

// merges are those that are done.
func merges() []named {
	return slices.Concat(shapes(), orders())
}

// shapes are borders of all kinds, with what comes of them corner by corner.
func shapes() []named {
	return slices.Concat(
		both("halves", halves(), 3, 7, halves().Outer),
		both("one edge, ends on straight lines", bands(), 2, 4, of(0, 0, 2, 0, 4, 0, 4, 4, 2, 4, 0, 4)),
		both("one edge, not of the first ring", bands(), 4, 6, of(2, 0, 4, 0, 6, 0, 6, 4, 4, 4, 2, 4)),
		both("ends that others have too", crossroads(), 2, 4, of(0, 0, 2, 0, 4, 0, 4, 2, 2, 2, 0, 2)),
		both("one above the other", crossroads(), 4, 8, of(2, 0, 4, 0, 4, 2, 4, 4, 2, 4, 2, 2)),
		both("the last edge of one, the first of the other", crossroads(), 2, 6, of(0, 0, 2, 0, 2, 2, 2, 4, 0, 4, 0, 2)),
		both("one that lies round another: its least corner goes", bay(), 2, 4, bay().Outer),
		both("one that lies round two, and the lower one", stacked(), 2, 4, of(0, 0, 8, 0, 8, 6, 6, 6, 6, 4, 2, 4, 2, 6, 0, 6)),
		both("two that another lies round", stacked(), 4, 6, of(2, 2, 6, 2, 6, 4, 6, 6, 2, 6, 2, 4)),
		both("one that lies round three, and the first", trio(), 1, 2, of(0, 0, 8, 0, 8, 6, 7, 6, 7, 2, 5, 2, 3, 2, 3, 6, 1, 6, 0, 6)),
		both("one that lies round three, and the middle one", trio(), 1, 3, of(0, 0, 8, 0, 8, 6, 7, 6, 7, 2, 5, 2, 5, 6, 3, 6, 3, 2, 1, 2, 1, 6, 0, 6)),
		both("one that lies round three, and the last", trio(), 1, 4, of(0, 0, 8, 0, 8, 6, 7, 6, 5, 6, 5, 2, 3, 2, 1, 2, 1, 6, 0, 6)),
		both("a border that slants", rhombs(), 3, 5, rhombs().Outer),
		both("two of a fan", fan(), 1, 2, of(0, 0, 6, 0, 6, 6, 3, 2)),
		both("two of a fan, at the first corner", fan(), 1, 4, of(0, 0, 6, 0, 3, 2, 0, 6)),
		both("a triangle beside a fan", fan(), 2, 5, of(3, 2, 6, 0, 9, 9, 6, 6)),
		both("beside a sliver", sliver(), 1, 3, of(0, 0, 2, 0, 3, 2, 2, 4, 0, 4)),
		both("a sliver in a bay", sliver(), 2, 3, of(2, 0, 4, 0, 4, 4, 2, 4)),
		both("two edges", notch(), 1, 2, notch().Outer),
		both("five edges", zigzag(), 4, 9, zigzag().Outer),
		both("four edges on a straight line", straight(), 4, 6, of(0, 1, 3, 1, 6, 1, 6, 6, 3, 6, 0, 6)),
		both("one edge beside a straight line", straight(), 4, 8, of(0, 0, 6, 0, 6, 1, 3, 1, 3, 2, 3, 3, 3, 5, 3, 6, 0, 6, 0, 1)),
	)
}

// orders are IDs below, between and above the others, and owners of all kinds.
func orders() []named {
	var list []named
	lower, upper := of(0, 0, 2, 0, 4, 0, 4, 2, 2, 2, 0, 2), of(0, 2, 2, 2, 4, 2, 4, 4, 2, 4, 0, 4)
	owners := [4]string{"", " ~", "Ann", strings.Repeat("x", api.MaxOwner)}
	for _, ids := range [][4]int{{1, 2, 3, 4}, {2, 4, 6, 8}, {1, 77, 78, api.MaxID}, {api.MaxID - 3, api.MaxID - 2, api.MaxID - 1, api.MaxID}} {
		for turn := range 24 {
			p, order := crossroads(), permuted(turn)
			for i := range p.Parcels {
				p.Parcels[i].ID, p.Parcels[i].Owner = ids[order[i]], owners[(i+turn)%4]
			}
			one, two, three, four := p.Parcels[0].ID, p.Parcels[1].ID, p.Parcels[2].ID, p.Parcels[3].ID
			slices.SortFunc(p.Parcels, func(a, b api.Parcel) int { return a.ID - b.ID })
			list = slices.Concat(list, both("IDs and owners", p, one, two, lower), both("IDs and owners above", p, three, four, upper))
		}
	}
	return list
}

// permuted answers the numbers 0 to 3 in one of their 24 orders.
func permuted(turn int) [4]int {
	left := []int{0, 1, 2, 3}
	var order [4]int
	for i := range order {
		n := turn % len(left)
		turn /= len(left)
		order[i] = left[n]
		left = slices.Delete(left, n, n+1)
	}
	return order
}
