package query_test

import (
	"maps"
	"math"
	"slices"

	"merestone/api"
)

const (
	limit = api.MaxCoord
	size  = api.CellSize
)

func at(x, y int) api.Point { return api.Point{X: x, Y: y} }

func box(lowX, lowY, highX, highY int) api.Window {
	return api.Window{Low: at(lowX, lowY), High: at(highX, highY)}
}

// of makes a ring of numbers: X and Y of one point after the other.
func of(numbers ...int) api.Ring {
	var r api.Ring
	for pair := range slices.Chunk(numbers, 2) {
		r = append(r, at(pair[0], pair[1]))
	}
	return r
}

// edges makes a list of numbers: X and Y of A, then of B, of one edge after the other.
func edges(numbers ...int) []api.Edge {
	var list []api.Edge
	for n := range slices.Chunk(numbers, 4) {
		list = append(list, api.Edge{A: at(n[0], n[1]), B: at(n[2], n[3])})
	}
	return list
}

// pairs makes a list of numbers: A and B of one pair after the other.
func pairs(numbers ...int) []api.Pair {
	var list []api.Pair
	for n := range slices.Chunk(numbers, 2) {
		list = append(list, api.Pair{A: n[0], B: n[1]})
	}
	return list
}

func ids(numbers ...int) []int { return numbers }

func parcel(id int, corners ...int) api.Parcel {
	return api.Parcel{ID: id, Ring: of(corners...), Owner: "Ann"}
}

func lay(outer api.Ring, list ...api.Parcel) api.Plan {
	return api.Plan{Outer: outer, Parcels: list}
}

func copied(p api.Plan) api.Plan {
	other := lay(slices.Clone(p.Outer), slices.Clone(p.Parcels)...)
	for i := range other.Parcels {
		other.Parcels[i].Ring = slices.Clone(p.Parcels[i].Ring)
	}
	return other
}

func equal(p, q api.Plan) bool {
	return slices.Equal(p.Outer, q.Outer) && slices.EqualFunc(p.Parcels, q.Parcels, func(a, b api.Parcel) bool {
		return a.ID == b.ID && a.Owner == b.Owner && slices.Equal(a.Ring, b.Ring)
	})
}

// least begins any ring at its least corner.
func least(r api.Ring) api.Ring {
	first := 0
	for i, p := range r {
		if p.X < r[first].X || p.X == r[first].X && p.Y < r[first].Y {
			first = i
		}
	}
	return slices.Concat(r[first:], r[:first])
}

// numbered gives the parcels of a plan other IDs, the first ID to the first one, and lays them by ID again.
func numbered(p api.Plan, list ...int) api.Plan {
	p = copied(p)
	for i := range p.Parcels {
		p.Parcels[i].ID = list[i]
	}
	slices.SortFunc(p.Parcels, func(a, b api.Parcel) int { return a.ID - b.ID })
	return p
}

// A view lays the plane down elsewhere. Where it is mirrored, left and right change places, so that rings run the other way round. Where it is slanted, windows are no windows any more.
type view struct {
	name              string
	mirrored, slanted bool
	to                func(api.Point) api.Point
}

func views() []view {
	return []view{
		{"as it is", false, false, func(p api.Point) api.Point { return p }},
		{"turned once", false, false, func(p api.Point) api.Point { return at(-p.Y, p.X) }},
		{"turned twice", false, false, func(p api.Point) api.Point { return at(-p.X, -p.Y) }},
		{"turned thrice", false, false, func(p api.Point) api.Point { return at(p.Y, -p.X) }},
		{"left and right", true, false, func(p api.Point) api.Point { return at(-p.X, p.Y) }},
		{"above and below", true, false, func(p api.Point) api.Point { return at(p.X, -p.Y) }},
		{"X and Y", true, false, func(p api.Point) api.Point { return at(p.Y, p.X) }},
		{"around the middle", false, false, func(p api.Point) api.Point { return at(p.X-2, p.Y-2) }},
		{"slanted", false, true, func(p api.Point) api.Point { return at(2*p.X+p.Y, p.X+3*p.Y) }},
		{"slanted, mirrored", true, true, func(p api.Point) api.Point { return at(3*p.X-2*p.Y, p.X-5*p.Y) }},
		{"around a corner of cells", false, false, func(p api.Point) api.Point { return at(p.X+size-2, p.Y-size-2) }},
		{"a cell as a step, from 0 on", false, false, func(p api.Point) api.Point { return at(p.X*size/2, p.Y*size/2) }},
		spread(),
		{"steps beside the cells, turned", false, false, func(p api.Point) api.Point { return at((4-p.X)*(size-7), (4-p.Y)*(size/3+1)) }},
		{"slanted, over many cells", false, true, func(p api.Point) api.Point {
			return at((2*p.X+p.Y-12)*(size/5), (3*p.Y+p.X-16)*(size/6))
		}},
		{"at a corner of all that is Good", false, false, func(p api.Point) api.Point { return at(p.X+limit-8, p.Y-limit) }},
	}
}

// spread lays what is between 0 and 8 over all that is Good, each step a cell.
func spread() view {
	return view{"a cell as a step, all that is Good", false, false, func(p api.Point) api.Point { return at((p.X-4)*size, (p.Y-4)*size) }}
}

func (v view) ring(r api.Ring) api.Ring {
	var seen api.Ring
	for _, p := range r {
		seen = append(seen, v.to(p))
	}
	if v.mirrored {
		slices.Reverse(seen)
	}
	return least(seen)
}

func (v view) plan(p api.Plan) api.Plan {
	seen := lay(v.ring(p.Outer))
	for _, parcel := range p.Parcels {
		parcel.Ring = v.ring(parcel.Ring)
		seen.Parcels = append(seen.Parcels, parcel)
	}
	return seen
}

func (v view) window(w api.Window) api.Window {
	a, b := v.to(w.Low), v.to(w.High)
	return box(min(a.X, b.X), min(a.Y, b.Y), max(a.X, b.X), max(a.Y, b.Y))
}

// square is a territory of one parcel.
func square() api.Plan {
	return lay(of(0, 0, 4, 0, 4, 4, 0, 4), parcel(5, 0, 0, 4, 0, 4, 4, 0, 4))
}

// halves is chapter 6's example: 2 lies to the left, 1 to the right.
func halves() api.Plan {
	return lay(of(0, 0, 2, 0, 4, 0, 4, 4, 2, 4, 0, 4), parcel(1, 2, 0, 4, 0, 4, 4, 2, 4), parcel(2, 0, 0, 2, 0, 2, 4, 0, 4))
}

// three is one below two that are side by side.
func three() api.Plan {
	return lay(of(0, 0, 4, 0, 4, 2, 4, 4, 2, 4, 0, 4, 0, 2),
		parcel(2, 0, 0, 4, 0, 4, 2, 2, 2, 0, 2), parcel(4, 0, 2, 2, 2, 2, 4, 0, 4), parcel(6, 2, 2, 4, 2, 4, 4, 2, 4))
}

// crossroads is the square in four, with one point in common.
func crossroads() api.Plan {
	return lay(of(0, 0, 2, 0, 4, 0, 4, 2, 4, 4, 2, 4, 0, 4, 0, 2),
		parcel(2, 0, 0, 2, 0, 2, 2, 0, 2), parcel(4, 2, 0, 4, 0, 4, 2, 2, 2),
		parcel(6, 0, 2, 2, 2, 2, 4, 0, 4), parcel(8, 2, 2, 4, 2, 4, 4, 2, 4))
}

// star is the square in six, with one point in common: 1 below, and on around it to the left.
func star() api.Plan {
	return lay(of(0, 0, 2, 0, 4, 0, 4, 4, 2, 4, 0, 4),
		parcel(1, 0, 0, 2, 0, 2, 2), parcel(2, 2, 0, 4, 0, 2, 2), parcel(3, 2, 2, 4, 0, 4, 4),
		parcel(4, 2, 2, 4, 4, 2, 4), parcel(5, 0, 4, 2, 2, 2, 4), parcel(6, 0, 0, 2, 2, 0, 4))
}

// bands is three side by side: the first and the last are apart.
func bands() api.Plan {
	return lay(of(0, 0, 2, 0, 4, 0, 6, 0, 6, 4, 4, 4, 2, 4, 0, 4),
		parcel(3, 0, 0, 2, 0, 2, 4, 0, 4), parcel(7, 2, 0, 4, 0, 4, 4, 2, 4), parcel(8, 4, 0, 6, 0, 6, 4, 4, 4))
}

// zigzag is two with a border of five edges.
func zigzag() api.Plan {
	return lay(of(0, 0, 2, 0, 6, 0, 6, 6, 4, 6, 0, 6),
		parcel(4, 0, 0, 2, 0, 3, 1, 2, 2, 4, 3, 3, 4, 4, 6, 0, 6),
		parcel(9, 2, 0, 6, 0, 6, 6, 4, 6, 3, 4, 4, 3, 2, 2, 3, 1))
}

// creek is two with a border that winds: the second one's first corner is amid it.
func creek() api.Plan {
	return lay(of(0, 0, 4, 0, 8, 0, 8, 8, 4, 8, 0, 8),
		parcel(1, 0, 0, 4, 0, 2, 2, 6, 3, 4, 4, 2, 6, 4, 8, 0, 8),
		parcel(2, 2, 2, 4, 0, 8, 0, 8, 8, 4, 8, 2, 6, 4, 4, 6, 3))
}

// gate is two with a border in three parts: 3 and 4 lie between.
func gate() api.Plan {
	return lay(of(0, 0, 4, 0, 8, 0, 8, 8, 4, 8, 0, 8),
		parcel(1, 0, 0, 4, 0, 4, 1, 3, 2, 4, 3, 4, 5, 3, 6, 4, 7, 4, 8, 0, 8),
		parcel(2, 4, 0, 8, 0, 8, 8, 4, 8, 4, 7, 5, 6, 4, 5, 4, 3, 5, 2, 4, 1),
		parcel(3, 3, 2, 4, 1, 5, 2, 4, 3), parcel(4, 3, 6, 4, 5, 5, 6, 4, 7))
}

// corner is two with an edge and a corner alone in common, and a triangle between these.
func corner() api.Plan {
	return lay(of(0, 0, 8, 0, 8, 8, 4, 8, 0, 8),
		parcel(1, 0, 0, 4, 2, 4, 6, 4, 8, 0, 8), parcel(2, 4, 2, 8, 0, 8, 8, 4, 8, 4, 6, 6, 4),
		parcel(3, 4, 2, 6, 4, 4, 6), parcel(4, 0, 0, 8, 0, 4, 2))
}

// island is one that another lies round on three sides, with room beside it.
func island() api.Plan {
	return lay(of(0, 0, 8, 0, 8, 8, 6, 8, 2, 8, 0, 8),
		parcel(2, 0, 0, 8, 0, 8, 8, 6, 8, 5, 3, 3, 3, 2, 8, 0, 8), parcel(4, 2, 8, 3, 3, 5, 3, 6, 8))
}

// vee is one below a notch of the territory, as wide as that, and one around it.
func vee() api.Plan {
	return lay(of(0, 0, 8, 0, 8, 8, 6, 8, 4, 4, 2, 8, 0, 8),
		parcel(1, 0, 0, 8, 0, 8, 8, 6, 8, 4, 2, 2, 8, 0, 8), parcel(2, 2, 8, 4, 2, 6, 8, 4, 4))
}

// slant is the square in two by a line from corner to corner, upwards.
func slant() api.Plan {
	return lay(of(0, 0, 8, 0, 8, 8, 0, 8), parcel(1, 0, 0, 8, 0, 8, 8), parcel(2, 0, 0, 8, 8, 0, 8))
}

// all are plans of all kinds, between 0 and 8.
func all() map[string]api.Plan {
	return map[string]api.Plan{
		"square": square(), "halves": halves(), "three": three(), "crossroads": crossroads(), "star": star(), "bands": bands(), "zigzag": zigzag(),
		"creek": creek(), "gate": gate(), "corner": corner(), "island": island(), "vee": vee(), "slant": slant(),
		"crossroads, other IDs": numbered(crossroads(), 100, 9, 10, api.MaxID),
		"star, other IDs":       numbered(star(), 77, 1, 78, api.MaxID, 2, 11),
	}
}

// strips is a plan of upright strips, side by side; borders tells how many edges each upright border has, the territory's two among them. It need not be sound.
func strips(borders ...int) api.Plan {
	border := func(i int) api.Ring {
		var r api.Ring
		for y := range borders[i] {
			r = append(r, at(4*i+y%2, y))
		}
		return append(r, at(4*i, 1000))
	}
	downward := func(i int) api.Ring {
		r := border(i)
		slices.Reverse(r)
		return r
	}
	var p api.Plan
	last := len(borders) - 1
	for i := range last {
		p.Parcels = append(p.Parcels, api.Parcel{ID: i + 1, Ring: least(slices.Concat(border(i+1), downward(i)))})
		p.Outer = append(p.Outer, at(4*i, 0))
	}
	p.Outer = append(p.Outer, border(last)...)
	for i := last - 1; i > 0; i-- {
		p.Outer = append(p.Outer, at(4*i, 1000))
	}
	left := downward(0)
	p.Outer = least(append(p.Outer, left[:len(left)-1]...))
	return p
}

// A sheet is a drawing of a plan: the squares that are a parcel's, by their lower left corners on the drawing, and where on the plane it lies, a square as wide as step.
type sheet struct {
	squares map[api.Point]int
	low     api.Point
	step    int
}

// drawn is a sheet of rows, the lowest one last: a square of a letter is the parcel's of that number (a: 1), a blank is outside.
func drawn(low api.Point, step int, rows ...string) sheet {
	s := sheet{map[api.Point]int{}, low, step}
	for i, row := range rows {
		for x, c := range row {
			if c != ' ' {
				s.squares[at(x, len(rows)-1-i)] = int(c-'a') + 1
			}
		}
	}
	return s
}

// block is a sheet of so many parcels along, and so many up, of one square each. IDs rise from column to column.
func block(low api.Point, step, along, up int) sheet {
	s := sheet{map[api.Point]int{}, low, step}
	for x := range along {
		for y := range up {
			s.squares[at(x, y)] = x*up + y + 1
		}
	}
	return s
}

func (s sheet) ids() []int {
	return slices.Compact(slices.Sorted(maps.Values(s.squares)))
}

// plan has a corner at each corner of a square along a border. It answers false, if a parcel or the territory is not one piece without a hole, or touches itself.
func (s sheet) plan() (api.Plan, bool) {
	outer, ok := s.traced(func(int) bool { return true })
	p := lay(outer)
	for _, id := range s.ids() {
		r, whole := s.traced(func(other int) bool { return other == id })
		p.Parcels, ok = append(p.Parcels, api.Parcel{ID: id, Ring: r}), ok && whole
	}
	return p, ok
}

// traced answers the way around the squares of a kind.
func (s sheet) traced(kind func(int) bool) (api.Ring, bool) {
	has := func(x, y int) bool { id, there := s.squares[at(x, y)]; return there && kind(id) }
	next, count, first := map[api.Point]api.Point{}, 0, api.Point{}
	step := func(beside bool, from, to api.Point) {
		if !beside {
			next[from], first = to, from
			count++
		}
	}
	for p := range s.squares {
		if x, y := p.X, p.Y; has(x, y) {
			step(has(x, y-1), at(x, y), at(x+1, y))
			step(has(x+1, y), at(x+1, y), at(x+1, y+1))
			step(has(x, y+1), at(x+1, y+1), at(x, y+1))
			step(has(x-1, y), at(x, y+1), at(x, y))
		}
	}
	r := api.Ring{first}
	for len(r) <= count && next[r[len(r)-1]] != first {
		r = append(r, next[r[len(r)-1]])
	}
	whole := len(r) == count && count > 0
	for i, p := range r {
		r[i] = at(s.low.X+s.step*p.X, s.low.Y+s.step*p.Y)
	}
	return least(r), whole
}

// good are coordinates, the Good ones of them, each once, rising.
func good(list ...int) []int {
	slices.Sort(list)
	return slices.Compact(slices.DeleteFunc(list, func(n int) bool { return n < -limit || n > limit }))
}

// beyond are coordinates that are not Good.
func beyond() []int {
	return []int{limit + 1, -limit - 1, limit + size, 1 << 32, math.MaxInt, math.MinInt, math.MaxInt - 2}
}
