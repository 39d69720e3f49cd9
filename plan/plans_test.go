package plan

import (
	"math"
	"slices"
	"strings"

	"merestone/api"
	"merestone/ring"
)

const limit = api.MaxCoord

func at(x, y int) api.Point { return api.Point{X: x, Y: y} }

// of makes a ring of numbers: X and Y of one corner after the other.
func of(numbers ...int) api.Ring {
	var r api.Ring
	for pair := range slices.Chunk(numbers, 2) {
		r = append(r, at(pair[0], pair[1]))
	}
	return r
}

func long(bytes int) string { return strings.Repeat("x", bytes) }

// lay makes a plan of rings: the parcels are 1, 2, .. and have owners a, b, ..
func lay(outer api.Ring, rings ...api.Ring) api.Plan {
	p := api.Plan{Outer: outer}
	for i, r := range rings {
		p.Parcels = append(p.Parcels, api.Parcel{ID: i + 1, Ring: r, Owner: string(rune('a' + i%26))})
	}
	return p
}

func copied(p api.Plan) api.Plan {
	other := api.Plan{Outer: slices.Clone(p.Outer), Parcels: slices.Clone(p.Parcels)}
	for i := range other.Parcels {
		other.Parcels[i].Ring = slices.Clone(p.Parcels[i].Ring)
	}
	return other
}

func equalParcels(one, other api.Parcel) bool {
	return one.ID == other.ID && one.Owner == other.Owner && slices.Equal(one.Ring, other.Ring)
}

func equal(p, q api.Plan) bool {
	return slices.Equal(p.Outer, q.Outer) && slices.EqualFunc(p.Parcels, q.Parcels, equalParcels)
}

func eachPoint(low, high int, look func(api.Point)) {
	for x := low; x <= high; x++ {
		for y := low; y <= high; y++ {
			look(at(x, y))
		}
	}
}

// moved sets all corners down elsewhere; where that turns rings round, they are turned back, and they begin at their least corners again.
func moved(p api.Plan, to func(api.Point) api.Point) api.Plan {
	other := copied(p)
	set := func(r api.Ring) api.Ring {
		for i := range r {
			r[i] = to(r[i])
		}
		if ring.Check(r) == api.ErrRing && ring.Check(ring.Turned(r)) == api.OK {
			r = ring.Turned(r)
		}
		return least(r)
	}
	other.Outer = set(other.Outer)
	for i := range other.Parcels {
		other.Parcels[i].Ring = set(other.Parcels[i].Ring)
	}
	return other
}

func before(p, q api.Point) bool {
	return p.X < q.X || p.X == q.X && p.Y < q.Y
}

// least begins any ring at its least corner.
func least(r api.Ring) api.Ring {
	first := 0
	for i := range r {
		if before(r[i], r[first]) {
			first = i
		}
	}
	return slices.Concat(r[first:], r[:first])
}

// views are ways to lay the plane down on its grid; some of them make borders slant.
func views() []func(api.Point) api.Point {
	return []func(api.Point) api.Point{
		func(p api.Point) api.Point { return p },
		func(p api.Point) api.Point { return at(-p.Y, p.X) },
		func(p api.Point) api.Point { return at(-p.X, p.Y) },
		func(p api.Point) api.Point { return at(p.Y, p.X) },
		func(p api.Point) api.Point { return at(2*p.X+p.Y, p.X+3*p.Y) },
		func(p api.Point) api.Point { return at(3*p.X-2*p.Y, p.X-5*p.Y) },
	}
}

// drawn makes a plan of a drawing, the lowest row last: a cell of a letter is the parcel's of that number (a: 1), a blank is outside. Each point of the grid along a border is a corner. It answers false, if a parcel or the territory is not one piece without a hole, or touches itself.
func drawn(rows ...string) (api.Plan, bool) {
	cells := map[api.Point]rune{}
	for i, row := range rows {
		for x, c := range row {
			if c != ' ' {
				cells[at(x, len(rows)-1-i)] = c
			}
		}
	}
	outer, ok := traced(cells, func(rune) bool { return true })
	p := api.Plan{Outer: outer}
	for c := 'a'; c <= 'z' && ok; c++ {
		if !strings.ContainsRune(strings.Join(rows, ""), c) {
			continue
		}
		var r api.Ring
		r, ok = traced(cells, func(other rune) bool { return other == c })
		p.Parcels = append(p.Parcels, api.Parcel{ID: int(c - 'a' + 1), Ring: r, Owner: string(c)})
	}
	return p, ok
}

// draw is drawn for a drawing that has a plan.
func draw(rows ...string) api.Plan {
	p, ok := drawn(rows...)
	if !ok {
		panic("no plan: " + strings.Join(rows, "|"))
	}
	return p
}

// traced answers the way around the cells of a kind.
func traced(cells map[api.Point]rune, kind func(rune) bool) (api.Ring, bool) {
	has := func(x, y int) bool { c, there := cells[at(x, y)]; return there && kind(c) }
	next := map[api.Point]api.Point{}
	edges := 0
	step := func(beside bool, from, to api.Point) {
		if !beside {
			next[from] = to
			edges++
		}
	}
	for p := range cells {
		if x, y := p.X, p.Y; has(x, y) {
			step(has(x, y-1), at(x, y), at(x+1, y))
			step(has(x+1, y), at(x+1, y), at(x+1, y+1))
			step(has(x, y+1), at(x+1, y+1), at(x, y+1))
			step(has(x-1, y), at(x, y+1), at(x, y))
		}
	}
	var r api.Ring
	for p := range next {
		for r = (api.Ring{p}); len(r) <= edges && next[r[len(r)-1]] != p; {
			r = append(r, next[r[len(r)-1]])
		}
		break
	}
	return least(r), len(r) == edges && edges > 0
}

// zigzag is a ring of that many corners: a zigzag below, and straight edges above.
func zigzag(corners int) api.Ring {
	var r api.Ring
	for i := range corners - 2 {
		r = append(r, at(i, i%2))
	}
	return append(r, at(corners-3, 4), at(0, 4))
}

// strips is a plan of upright strips, side by side; borders tells how many edges each upright border has, the territory's two among them.
func strips(borders ...int) api.Plan {
	border := func(i int) api.Ring {
		var r api.Ring
		for y := range borders[i] {
			r = append(r, at(4*i+y%2, y))
		}
		return append(r, at(4*i, 1000))
	}
	var p api.Plan
	last := len(borders) - 1
	for i := range last {
		p.Parcels = append(p.Parcels, api.Parcel{ID: i + 1, Ring: least(slices.Concat(border(i+1), ring.Turned(border(i))))})
		p.Outer = append(p.Outer, at(4*i, 0))
	}
	p.Outer = append(p.Outer, border(last)...)
	for i := range last - 1 {
		p.Outer = append(p.Outer, at(4*(last-1-i), 1000))
	}
	left := ring.Turned(border(0))
	p.Outer = least(append(p.Outer, left[:len(left)-1]...))
	return p
}

// crossroads is a square in four, with one point in common.
func crossroads() api.Plan {
	return lay(of(0, 0, 2, 0, 4, 0, 4, 2, 4, 4, 2, 4, 0, 4, 0, 2),
		of(0, 0, 2, 0, 2, 2, 0, 2), of(2, 0, 4, 0, 4, 2, 2, 2), of(0, 2, 2, 2, 2, 4, 0, 4), of(2, 2, 4, 2, 4, 4, 2, 4))
}

// halves is chapter 6's example.
func halves() api.Plan {
	return lay(of(0, 0, 2, 0, 4, 0, 4, 4, 2, 4, 0, 4), of(2, 0, 4, 0, 4, 4, 2, 4), of(0, 0, 2, 0, 2, 4, 0, 4))
}

// fan is four triangles around a point that is no corner of the territory, and a fifth one beside two of them.
func fan() api.Plan {
	return lay(of(0, 0, 6, 0, 9, 9, 6, 6, 0, 6),
		of(0, 0, 6, 0, 3, 2), of(3, 2, 6, 0, 6, 6), of(0, 6, 3, 2, 6, 6), of(0, 0, 3, 2, 0, 6), of(6, 0, 9, 9, 6, 6))
}

// block is a plan of so many parcels along, and so many up.
func block(along, up int) api.Plan {
	p := api.Plan{}
	for x := range along {
		for y := range up {
			p.Parcels = append(p.Parcels, api.Parcel{ID: len(p.Parcels) + 1, Ring: of(x, y, x+1, y, x+1, y+1, x, y+1)})
		}
	}
	for x := range along {
		p.Outer = append(p.Outer, at(x, 0))
	}
	for y := range up {
		p.Outer = append(p.Outer, at(along, y))
	}
	for x := range along {
		p.Outer = append(p.Outer, at(along-x, up))
	}
	for y := range up {
		p.Outer = append(p.Outer, at(0, up-y))
	}
	return p
}

// A named plan is not sound by the sentences that faults names, if any.
type named struct {
	name   string
	plan   api.Plan
	faults []string
}

func soundPlans() []named {
	numbered := halves()
	numbered.Parcels[0].ID, numbered.Parcels[1].ID = api.MaxID-1, api.MaxID
	apart := halves()
	apart.Parcels[1].ID = api.MaxID
	owned := halves()
	owned.Parcels[0].Owner, owned.Parcels[1].Owner = "", long(32)
	odd := crossroads()
	odd.Parcels[1].Owner, odd.Parcels[2].Owner, odd.Parcels[3].Owner = " ", "~", " Ann & Bob ~"
	all := func(p api.Point) api.Point { return at((p.X-2)*(limit/2), (p.Y-2)*(limit/2)) }
	full := block(8, 8)
	return []named{
		{name: "a square", plan: lay(of(0, 0, 4, 0, 4, 4, 0, 4), of(0, 0, 4, 0, 4, 4, 0, 4))},
		{name: "a triangle", plan: lay(of(0, 0, 3, 1, 1, 4), of(0, 0, 3, 1, 1, 4))},
		{name: "a square with corners on straight lines", plan: draw("aaa", "aaa", "aaa")},
		{name: "two halves", plan: halves()},
		{name: "IDs up to MaxID", plan: numbered},
		{name: "IDs 1 and MaxID", plan: apart},
		{name: "owners of 0 and 32 bytes", plan: owned},
		{name: "owners of the bytes 32 and 126", plan: odd},
		{name: "four that have one point in common", plan: crossroads()},
		{name: "five triangles", plan: fan()},
		{name: "two with a border in two parts, and one off the territory's border", plan: draw("aab", "acb", "abb")},
		{name: "two with a border in three parts", plan: draw("aaaaaaa", "acabada", "bbbbbbb")},
		{name: "one nearly all around another, which lies along the territory's border", plan: draw("aaaa", "abba", "abba")},
		{name: "one all around two, that are one piece", plan: draw("aaaa", "abca", "abca", "aada")},
		{name: "three along the territory's border, and one off it", plan: draw("aabb", "adeb", "cccb")},
		{name: "a territory with bays", plan: draw("a bb", "aabb", " cc ", "ccdd")},
		{name: "a territory with a bay that a parcel fills up", plan: draw("aaaa", "abb ", "abb ", "aaaa")},
		{name: "64 parcels", plan: full},
		{name: "MaxCorners corners", plan: strips(1, 62, 61, 62, 61, 62, 61, 62, 61, 1)},
		{name: "a ring of MaxPoints corners", plan: strips(1, 63, 63, 1)},
		{name: "an Outer of MaxPoints corners", plan: strips(62, 1, 62)},
		{name: "all that is Good, in four", plan: moved(crossroads(), all)},
		{name: "all that is Good, in halves", plan: moved(halves(), all)},
	}
}

func unsoundPlans() []named {
	return slices.Concat(unsoundParcels(), unsoundRings(), unfit())
}

// unsoundParcels are not sound by how many parcels they have, by IDs or by owners.
func unsoundParcels() []named {
	list := []named{
		{"nothing", api.Plan{}, []string{count, sound}},
		{"no parcel", lay(of(0, 0, 4, 0, 4, 4, 0, 4)), []string{count, bare, areas}},
		{"parcels without a territory", api.Plan{Parcels: halves().Parcels}, []string{sound, lone, areas}},
		{"65 parcels", block(13, 5), []string{count}},
		{"200 parcels", block(20, 10), []string{count}},
		{"very many parcels, all nothing", api.Plan{Outer: halves().Outer, Parcels: make([]api.Parcel, 3000)}, []string{count, ids, sound, bare, areas}},
	}
	for _, pair := range [][2]int{{2, 1}, {1, 1}, {7, 7}, {0, 1}, {-1, 1}, {-2, -1}, {1, 0}, {1, -1}, {math.MinInt, 1}, {1, math.MinInt}, {1, api.MaxID + 1}, {api.MaxID, api.MaxID + 1}, {api.MaxID, api.MaxID}, {api.MaxID + 1, api.MaxID + 2}, {api.MaxID, 1}, {1, math.MaxInt}, {math.MaxInt, 1}} {
		p := halves()
		p.Parcels[0].ID, p.Parcels[1].ID = pair[0], pair[1]
		list = append(list, named{"IDs that are not sound", p, []string{ids}})
	}
	for i := range 3 {
		p := crossroads()
		p.Parcels[i].ID, p.Parcels[i+1].ID = p.Parcels[i+1].ID, p.Parcels[i].ID
		list = append(list, named{"two IDs that don't rise", p, []string{ids}})
		p = crossroads()
		p.Parcels[i].ID = p.Parcels[i+1].ID
		list = append(list, named{"two IDs that are the same", p, []string{ids}})
	}
	for _, owner := range []string{long(33), long(400), "\x1f", "\x7f", "\x00", "\x80", "\xff", "An\nn", "Ann\t", "\x1fAnn", "Ann\x7f", "ü", "A\u2028", long(31) + "\x1f", long(32) + "\x1f", "€"} {
		for i := range 4 {
			p := crossroads()
			p.Parcels[i].Owner = owner
			list = append(list, named{"an owner that is none", p, []string{owners}})
		}
	}
	return list
}

// unsoundRings are not sound by a ring alone.
func unsoundRings() []named {
	begun := crossroads()
	begun.Outer = slices.Concat(begun.Outer[3:], begun.Outer[:3])
	list := []named{
		{"an Outer begun elsewhere", begun, []string{begins}},
		{"a ring that touches itself", lay(of(0, 0, 1, 0, 2, 0, 2, 1, 2, 2, 1, 2, 0, 2, 0, 1), of(0, 0, 1, 0, 1, 1, 2, 1, 2, 2, 1, 2, 1, 1, 0, 1), of(1, 0, 2, 0, 2, 1, 1, 1), of(0, 1, 1, 1, 1, 2, 0, 2)), []string{sound}},
		{"an Outer that touches itself", lay(of(0, 0, 1, 0, 1, 1, 2, 1, 2, 2, 1, 2, 1, 1, 0, 1), of(0, 0, 1, 0, 1, 1, 0, 1), of(1, 1, 2, 1, 2, 2, 1, 2)), []string{sound}},
		{"an Outer there and back between two squares", lay(of(0, 0, 1, 0, 1, 1, 3, 1, 3, 0, 4, 0, 4, 2, 3, 2, 3, 1, 1, 1, 1, 2, 0, 2), of(0, 0, 1, 0, 1, 1, 1, 2, 0, 2), of(3, 0, 4, 0, 4, 2, 3, 2, 3, 1)), []string{sound, bare}},
		{"a ring of MaxPoints corners and one more", strips(1, 64, 63, 1), []string{sound}},
		{"an Outer of MaxPoints corners and one more", strips(63, 1, 62), []string{sound}},
		{"MaxCorners corners and two more", strips(1, 62, 61, 62, 61, 62, 61, 62, 62, 1), []string{corners}},
		{"an Outer with one corner more, so that there are MaxCorners and one more", withCorner(strips(1, 62, 61, 62, 61, 62, 61, 62, 61, 1)), []string{corners, lone, bare, onEdge}},
	}
	for i, r := range crossroads().Parcels {
		for n := range 3 {
			p := crossroads()
			p.Parcels[i].Ring = slices.Concat(r.Ring[n+1:], r.Ring[:n+1])
			list = append(list, named{"a ring begun elsewhere", p, []string{begins}})
		}
	}
	for _, off := range []api.Point{at(limit-3, 0), at(0, limit-3), at(-limit-1, 0), at(0, -limit-1)} {
		p := moved(crossroads(), func(p api.Point) api.Point { return at(p.X+off.X, p.Y+off.Y) })
		list = append(list, named{"corners that are not Good", p, []string{sound}})
	}
	return list
}

// withCorner sets a corner more on Outer's last edge.
func withCorner(p api.Plan) api.Plan {
	p = copied(p)
	p.Outer = append(p.Outer, at(0, 500))
	return p
}

// unfit are not sound by what rings have to do with one another. An edge that is nobody's the other way round comes alone; the other sentences of chapter 5 don't break without one of edges or areas, as these have the rest follow.
func unfit() []named {
	square := of(0, 0, 4, 0, 4, 4, 0, 4)
	far := block(3, 3)
	far.Parcels[4].Ring = of(9, 9, 10, 9, 10, 10, 9, 10)
	hole := block(3, 3)
	hole.Parcels = slices.Delete(hole.Parcels, 4, 5)
	beyond := halves()
	beyond.Parcels = append(beyond.Parcels, api.Parcel{ID: 3, Ring: of(4, 0, 8, 0, 8, 4, 4, 4)})
	again := halves()
	again.Parcels = append(again.Parcels, api.Parcel{ID: 3, Ring: slices.Clone(again.Parcels[1].Ring)})
	turnedRing := halves()
	turnedRing.Parcels[1].Ring = of(0, 0, 0, 4, 2, 4, 2, 0)
	turnedOuter := halves()
	turnedOuter.Outer = least(ring.Turned(turnedOuter.Outer))
	fewer := halves()
	fewer.Outer = square
	more := halves()
	more.Outer = of(0, 0, 2, 0, 4, 0, 4, 2, 4, 4, 2, 4, 0, 4)
	return []named{
		{"a gap, and as much land elsewhere", far, []string{lone}},
		{"a gap", hole, []string{lone, areas}},
		{"a gap on the territory's border", lay(halves().Outer, halves().Parcels[0].Ring), []string{lone, bare, areas}},
		{"a gap between two", lay(of(0, 0, 1, 0, 3, 0, 4, 0, 4, 4, 3, 4, 1, 4, 0, 4), of(0, 0, 1, 0, 1, 4, 0, 4), of(3, 0, 4, 0, 4, 4, 3, 4)), []string{lone, bare, areas}},
		{"a parcel beyond the territory", beyond, []string{lone, areas}},
		{"a parcel beside the territory, and none in it", lay(square, of(4, 0, 8, 0, 8, 4, 4, 4)), []string{lone, bare}},
		{"a parcel twice", again, []string{twice, areas}},
		{"the territory twice", lay(square, square, square), []string{twice, areas}},
		{"the territory, and a parcel within it", lay(square, square, of(1, 1, 3, 1, 3, 3, 1, 3)), []string{lone, areas}},
		{"the territory, and a parcel at its border", lay(of(0, 0, 1, 0, 3, 0, 4, 0, 4, 4, 0, 4), of(0, 0, 1, 0, 3, 0, 4, 0, 4, 4, 0, 4), of(1, 0, 3, 0, 3, 3, 1, 3)), []string{lone, twice, areas}},
		{"a parcel across the territory's border", lay(square, square, of(2, 1, 6, 1, 6, 3, 2, 3)), []string{lone, crosses, areas}},
		{"parcels that cross", lay(of(0, 0, 1, 0, 3, 0, 4, 0, 4, 1, 4, 3, 4, 4, 0, 4), of(0, 0, 3, 0, 3, 4, 0, 4), of(1, 0, 4, 0, 4, 4, 1, 3)), []string{lone, bare, onEdge, crosses, areas}},
		{"parcels whose borders cross, and whose areas come to the whole", lay(of(0, 0, 2, 0, 4, 0, 4, 4, 2, 4, 0, 4), of(0, 0, 2, 0, 3, 1, 1, 3, 2, 4, 0, 4), of(1, 1, 2, 0, 4, 0, 4, 4, 2, 4, 3, 3)), []string{lone, crosses}},
		{"a corner on another one's edge", lay(of(0, 0, 2, 0, 4, 0, 4, 2, 4, 4, 2, 4, 0, 4), of(0, 0, 2, 0, 2, 4, 0, 4), of(2, 0, 4, 0, 4, 2, 2, 2), of(2, 2, 4, 2, 4, 4, 2, 4)), []string{lone, onEdge}},
		{"a corner that only one of two has", lay(halves().Outer, of(2, 0, 4, 0, 4, 4, 2, 4, 2, 2), of(0, 0, 2, 0, 2, 4, 0, 4)), []string{lone, onEdge}},
		{"a territory that lacks parcels' corners", fewer, []string{lone, bare, onEdge}},
		{"a territory with a corner that no parcel has", more, []string{lone, bare, onEdge}},
		{"a ring to the right", turnedRing, []string{sound, lone, twice, bare, areas}},
		{"a territory to the right", turnedOuter, []string{sound, lone, bare, areas}},
		{"a border a step off", lay(halves().Outer, of(2, 0, 4, 0, 4, 4, 2, 4, 3, 2), of(0, 0, 2, 0, 2, 4, 0, 4)), []string{lone, areas}},
		{"a sliver between two", lay(halves().Outer, of(2, 0, 4, 0, 4, 4, 2, 4, 3, 2), of(0, 0, 2, 0, 2, 2, 2, 4, 0, 4)), []string{lone, areas}},
		{"parcels of another territory", api.Plan{Outer: of(0, 0, 8, 0, 8, 4, 0, 4), Parcels: halves().Parcels}, []string{lone, bare, onEdge, areas}},
		{"a parcel of the territory's area across it", lay(square, of(-2, 1, 6, 1, 6, 3, -2, 3)), []string{lone, bare, crosses}},
	}
}
