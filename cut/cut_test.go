package cut_test

import (
	"fmt"
	"math"
	"slices"
	"testing"

	"merestone/api"
	"merestone/cut"
	"merestone/plan"
	"merestone/ring"
)

// The call as the chapter lists it: this does not compile if it is another.
var _ func(api.Plan, int, api.Ring, int) (api.Plan, api.Errno) = cut.Split

func split(d deed) (api.Plan, api.Errno) {
	return cut.Split(d.plan, d.id, d.path, d.fresh)
}

// refuse wants an error, and nothing beside it.
func refuse(t *testing.T, what string, d deed, want api.Errno) {
	t.Helper()
	if got, e := split(d); e != want || !equal(got, api.Plan{}) {
		t.Errorf("%s, %v: %v, error %d, want %d", what, d, got, e, want)
	}
}

func TestChapterExamples(t *testing.T) {
	p, _ := plan.Begin(of(0, 0, 4, 0, 4, 4, 0, 4), 1, "Ann")
	got, e := cut.Split(p, 1, of(2, 0, 2, 4), 2)
	want := lay(of(0, 0, 2, 0, 4, 0, 4, 4, 2, 4, 0, 4), parcel(1, "Ann", 2, 0, 4, 0, 4, 4, 2, 4), parcel(2, "Ann", 0, 0, 2, 0, 2, 4, 0, 4))
	if e != api.OK || !equal(got, want) {
		t.Errorf("%v, error %d, want %v", got, e, want)
	}
	refuse(t, "the path beyond the square", deed{p, 1, of(2, 0, 5, 2, 2, 4), 2}, api.ErrCross)
	refuse(t, "the path that ends within", deed{p, 1, of(0, 0, 2, 2), 2}, api.ErrSide)
}

// P6.2

func TestSplits(t *testing.T) {
	for _, c := range splits() {
		for _, v := range views() {
			d := deed{v.plan(c.plan), c.id, v.path(c.path), c.fresh}
			want := v.plan(c.want)
			got, e := split(d)
			if e != api.OK || !equal(got, want) {
				t.Fatalf("%s, %s: %v, error %d, want %v", c.name, v.name, got, e, want)
			}
			judge(t, d)
		}
	}
}

func TestCrossings(t *testing.T) {
	for _, c := range crossings() {
		for _, v := range views() {
			d := deed{v.plan(c.plan), c.id, v.path(c.path), c.fresh}
			refuse(t, c.name+", "+v.name, d, api.ErrCross)
			judge(t, d)
		}
	}
}

// grid is all points from low to high.
func grid(low, high api.Point) []api.Point {
	var list []api.Point
	for x := low.X; x <= high.X; x++ {
		for y := low.Y; y <= high.Y; y++ {
			list = append(list, at(x, y))
		}
	}
	return list
}

// eachPath goes through all paths with ends among the first points and as many points between them among the second.
func eachPath(ends, between []api.Point, count int, look func(api.Ring)) {
	var extend func(api.Ring)
	extend = func(path api.Ring) {
		if len(path) == count+1 {
			for _, last := range ends {
				look(append(slices.Clone(path), last))
			}
			return
		}
		for _, p := range between {
			extend(append(slices.Clone(path), p))
		}
	}
	for _, first := range ends {
		extend(api.Ring{first})
	}
}

// onBorder are the points of the list that lie on the parcel's border.
func onBorder(p api.Plan, id int, list []api.Point) []api.Point {
	border := deed{plan: p, id: id}.border()
	return slices.DeleteFunc(slices.Clone(list), func(at api.Point) bool {
		side, _ := ring.Side(border, at)
		return side != 0
	})
}

// On a small grid around each plan, all paths of two points, with ends within and outside too, and all of three (of the smallest plans of four too) whose ends lie on the border.
func TestAllSmallPaths(t *testing.T) {
	plans := map[string]struct {
		plan      api.Plan
		low, high api.Point
		longest   int
	}{
		"square":     {lay(of(0, 0, 2, 0, 2, 2, 0, 2), parcel(5, "Ann", 0, 0, 2, 0, 2, 2, 0, 2)), at(-1, -1), at(3, 3), 2},
		"triangle":   {lay(of(0, 0, 3, 0, 0, 3), parcel(5, "Ann", 0, 0, 3, 0, 0, 3)), at(-1, -1), at(3, 3), 2},
		"halves":     {halves(), at(-1, -1), at(5, 5), 1},
		"crossroads": {crossroads(), at(0, -1), at(5, 4), 1},
		"bay":        {bay(), at(-1, 0), at(6, 5), 1},
		"rhombs":     {rhombs(), at(0, 0), at(5, 4), 1},
	}
	for name, c := range plans {
		for _, parcel := range c.plan.Parcels {
			t.Run(fmt.Sprint(name, parcel.ID), func(t *testing.T) {
				t.Parallel()
				points, cuts := grid(c.low, c.high), 0
				look := func(path api.Ring) {
					if _, ok := judge(t, deed{c.plan, parcel.ID, path, 1}); ok {
						cuts++
					}
				}
				eachPath(points, points, 0, look)
				for count := range c.longest {
					eachPath(onBorder(c.plan, parcel.ID, points), points, count+1, look)
				}
				if cuts < 10 {
					t.Errorf("%d splits alone", cuts)
				}
			})
		}
	}
}

// All ways of up to six steps to points beside, straight or slanting, from some points of the border: most of them come to a border, or to themselves.
func TestAllSmallWays(t *testing.T) {
	p := lay(of(0, 0, 3, 0, 3, 1, 3, 3, 0, 3), parcel(5, "Ann", 0, 0, 3, 0, 3, 1, 3, 3, 0, 3))
	for _, c := range []struct {
		from  api.Point
		steps []api.Point
		count int
	}{
		{at(1, 0), of(1, 0, 0, 1, -1, 0, 0, -1), 6},
		{at(0, 0), of(1, 1, 0, 1, 1, -1, -1, 0), 5},
		{at(3, 2), of(-1, 1, -1, 0, -1, -1, 1, 1), 5},
	} {
		t.Run(fmt.Sprint(c.from), func(t *testing.T) {
			t.Parallel()
			var walk func(path api.Ring)
			walk = func(path api.Ring) {
				if len(path) > 1 {
					judge(t, deed{p, 5, path, 2})
				}
				if len(path) > c.count {
					return
				}
				last := path[len(path)-1]
				for _, step := range c.steps {
					walk(append(slices.Clone(path), at(last.X+step.X, last.Y+step.Y)))
				}
			}
			walk(api.Ring{c.from})
		})
	}
}

// drawing answers numbers that look like chance, the same at each run.
func drawing(seed uint64) func(below int) int {
	return func(below int) int {
		seed = seed*6364136223846793005 + 1442695040888963407
		return int(seed>>33) % below
	}
}

// Splits one after the other, of what came of the splits ahead.
func TestManySplits(t *testing.T) {
	for seed := range uint64(6) {
		t.Run(fmt.Sprint(seed), func(t *testing.T) {
			t.Parallel()
			draw, cuts := drawing(seed), 0
			p := lay(of(0, 0, 12, 0, 9, 12, 0, 9), parcel(1000, "Ann", 0, 0, 12, 0, 9, 12, 0, 9))
			points := grid(at(0, 0), at(12, 12))
			for range 4000 {
				if cuts == 25 {
					break
				}
				chosen := p.Parcels[draw(len(p.Parcels))]
				border := onBorder(p, chosen.ID, points)
				path := api.Ring{border[draw(len(border))]}
				for range draw(4) {
					path = append(path, points[draw(len(points))])
				}
				path = append(path, border[draw(len(border))])
				fresh := 1 + draw(2000)
				if _, e := plan.Find(p, fresh); e != api.ErrNone {
					continue
				}
				if got, ok := judge(t, deed{p, chosen.ID, path, fresh}); ok {
					p, cuts = got, cuts+1
				}
			}
			if cuts < 10 {
				t.Errorf("%d splits alone", cuts)
			}
		})
	}
}

// P6.2: limits

// At the ends of what is Good: no point is one to spare.
func TestAtTheLimits(t *testing.T) {
	low, high := -limit, limit
	p, _ := plan.Begin(of(low, low, high, low, high, high, low, high), 5, "Ann")
	for _, c := range []named{
		wanted("from corner to corner", p, 5, of(low, low, high, high), 6, p.Outer,
			parcel(5, "Ann", low, low, high, low, high, high), parcel(6, "Ann", low, low, high, high, low, high)),
		wanted("beside a corner", p, 5, of(low+1, low, high, high-1), 6, of(low, low, low+1, low, high, low, high, high-1, high, high, low, high),
			parcel(5, "Ann", low+1, low, high, low, high, high-1), parcel(6, "Ann", low, low, low+1, low, high, high-1, high, high, low, high)),
		wanted("along a border, one beside it", p, 5, of(low, low+1, high-1, low+1, high-1, high), 6, of(low, low, high, low, high, high, high-1, high, low, high, low, low+1),
			parcel(5, "Ann", low, low, high, low, high, high, high-1, high, high-1, low+1, low, low+1), parcel(6, "Ann", low, low+1, high-1, low+1, high-1, high, low, high)),
	} {
		if got, e := split(c.deed); e != api.OK || !equal(got, c.want) {
			t.Errorf("%s: %v, error %d, want %v", c.name, got, e, c.want)
		}
	}
	for name, path := range map[string]api.Ring{
		"to a corner beside the diagonal": of(low, low, high-1, high, high, high-1, high, high),
		"along the border":                of(low, low, high-1, low, high, low+1),
	} {
		refuse(t, name, deed{p, 5, path, 6}, api.ErrCross)
	}
}

// The points (-1, -2) and (0, -1) are beside the edge from a corner of all that is Good to nearly the other, but so near to it that numbers of 53 bits have them on it.
func TestBesideALongEdge(t *testing.T) {
	low, high := -limit, limit
	p, _ := plan.Begin(of(low, low, high-1, high-3, low, high), 5, "Ann")
	for _, off := range []api.Point{at(-1, -2), at(0, -1)} {
		for _, path := range []api.Ring{{off, at(low, 0)}, {at(low, 0), off}} {
			refuse(t, "one beside a border that slants", deed{p, 5, path, 6}, api.ErrSide)
		}
	}
	outer := of(low, low, high, low, high-1, high-3, low, high)
	below, sliver := parcel(1, "Ann", low, low, high, low, high-1, high-3), parcel(2, "Bob", low, low, high-1, high-3, 0, -1)
	q := lay(outer, below, sliver, parcel(3, "Cid", low, low, 0, -1, high-1, high-3, low, high))
	c := wanted("from a corner beside another one's edge", q, 3, of(0, -1, low, high), 4, outer,
		below, sliver, parcel(3, "Cid", low, high, 0, -1, high-1, high-3), parcel(4, "Cid", low, low, 0, -1, low, high))
	if got, e := split(c.deed); e != api.OK || !equal(got, c.want) {
		t.Errorf("%s: %v, error %d, want %v", c.name, got, e, c.want)
	}
}

// fan is a path of so many points above the triangle's lowest edge, from one end of it to the other.
func fan(points int) (api.Plan, api.Ring) {
	p, _ := plan.Begin(of(0, 0, 200, 0, 100, 200), 5, "Ann")
	path := of(0, 0)
	for x := range points - 2 {
		path = append(path, at(x+1, 1))
	}
	return p, append(path, at(200, 0))
}

// A ring of MaxPoints corners, and one of one more: the path itself may have MaxPoints points, but no cut has.
func TestPathsAsLongAsMayBe(t *testing.T) {
	for points, want := range map[int]api.Errno{
		3: api.OK, 126: api.OK, 127: api.OK,
		128: api.ErrCross,
		129: api.ErrArg, 130: api.ErrArg, 5000: api.ErrArg,
	} {
		p, path := fan(points)
		for _, d := range []deed{{p, 5, path, 6}, {p, 5, ring.Turned(path), 6}} {
			got, e := split(d)
			switch {
			case e != want || e != api.OK && !equal(got, api.Plan{}):
				t.Errorf("%d points: %v, error %d, want %d", points, got, e, want)
			case e == api.OK && d.holds(got) != "":
				t.Errorf("%d points: %v %s", points, got, d.holds(got))
			}
		}
	}
}

// jagged is a line of that many points from the left to the right at a level.
func jagged(points, level int) api.Ring {
	var r api.Ring
	for x := range points {
		r = append(r, at(x, level+x%2))
	}
	return r
}

// comb is a territory of one parcel, with that many corners below and two above.
func comb(points int) api.Plan {
	p, _ := plan.Begin(append(jagged(points, 0), at(points-1, 9), at(0, 9)), 5, "Ann")
	return p
}

// stacked is that comb between two others: one fills what is below, one lies above.
func stacked(points int) api.Plan {
	middle, right := comb(points), points-1
	below := append(of(0, -9, right, -9), ring.Turned(jagged(points, 0))...)
	return lay(of(0, -9, right, -9, right, right%2, right, 9, right, 18, 0, 18, 0, 9, 0, 0),
		api.Parcel{ID: 1, Ring: below}, api.Parcel{ID: 2, Ring: middle.Outer}, parcel(3, "Ann", 0, 9, right, 9, right, 18, 0, 18))
}

// One corner more than MaxPoints in Outer alone, and in the ring of one beside alone: where there is room for it, the same path is no fault.
func TestCornersThatOthersHaveNoRoomFor(t *testing.T) {
	for _, path := range []api.Ring{of(60, 0, 60, 9), of(60, 9, 60, 0)} {
		done(t, deed{comb(125), 5, path, 6})
		refuse(t, "Outer has no room", deed{comb(126), 5, path, 6}, api.ErrCross)
	}
	done(t, deed{comb(126), 5, of(61, 1, 125, 9), 6})
	for _, path := range []api.Ring{of(60, 9, 60, 18), of(60, 18, 60, 9)} {
		done(t, deed{stacked(125), 3, path, 6})
		refuse(t, "one beside has no room", deed{stacked(126), 3, path, 6}, api.ErrCross)
	}
	done(t, deed{stacked(126), 3, of(0, 10, 125, 17), 6})
}

func corners(p api.Plan) int {
	count := len(p.Outer)
	for _, parcel := range p.Parcels {
		count += len(parcel.Ring)
	}
	return count
}

// strips is a rectangle that jagged lines of so many points cut into strips, from the left to the right.
func strips(t *testing.T, lines ...int) api.Plan {
	p, _ := plan.Begin(of(0, 0, 200, 0, 200, 100, 0, 100), 1, "Ann")
	for i, points := range lines {
		x := 10 * (i + 1)
		path := of(x, 0)
		for y := range points - 2 {
			path = append(path, at(x+y%2, y+1))
		}
		p = done(t, deed{p, 1, append(path, at(x, 100)), i + 2})
	}
	return p
}

// MaxCorners corners, and two more, as a sound plan has an even number of them: where there is room for them, the same path is no fault.
func TestAsManyCornersAsThereMayBe(t *testing.T) {
	fewer, p := strips(t, 50, 50, 50), strips(t, 50, 50, 50, 50, 50, 50, 50, 50, 50, 47)
	if corners(p) != api.MaxCorners-2 {
		t.Fatalf("%d corners", corners(p))
	}
	for name, path := range map[string]api.Ring{
		"an end on an edge":            of(0, 0, 5, 100),
		"the first end on an edge":     of(5, 100, 0, 0),
		"a point within":               of(0, 0, 5, 40, 10, 100),
		"two ends on edges":            of(5, 0, 5, 100),
		"two ends on an edge":          of(0, 3, 1, 3, 0, 4),
		"an end on an edge, and more":  of(0, 0, 5, 40, 5, 100),
		"from corner to corner, later": of(0, 100, 5, 50, 10, 5),
	} {
		done(t, deed{fewer, 2, path, 99})
		refuse(t, name, deed{p, 2, path, 99}, api.ErrCross)
	}
	full := done(t, deed{p, 2, of(0, 0, 10, 3), 99})
	if corners(full) != api.MaxCorners {
		t.Fatalf("%d corners", corners(full))
	}
	done(t, deed{fewer, 2, of(0, 100, 10, 5), 100})
	refuse(t, "from corner to corner", deed{full, 99, of(0, 100, 10, 5), 100}, api.ErrCross)
}

// A square is cut into MaxParcels, strip by strip, and then each strip; one more is refused.
func TestAsManyParcelsAsThereMayBe(t *testing.T) {
	p, _ := plan.Begin(of(0, 0, 16, 0, 16, 16, 0, 16), 1, "Ann")
	for x := 1; x < 8; x++ {
		p = done(t, deed{p, 8*(x-1) + 1, of(2*x, 16, 2*x, 0), 8*x + 1})
	}
	more := []named{
		{name: "a parcel more", deed: deed{id: 10, path: of(2, 2, 4, 4), fresh: 65}},
		{name: "a parcel more, the last one by its ID", deed: deed{id: 10, path: of(4, 4, 2, 2), fresh: api.MaxID}},
		{name: "a parcel more, with corners on edges", deed: deed{id: 10, path: of(2, 3, 4, 3), fresh: 65}},
	}
	for x := range 8 {
		for y := 1; y < 8; y++ {
			if x == 7 && y == 7 {
				for _, c := range more {
					done(t, deed{p, c.id, c.path, c.fresh})
				}
			}
			p = done(t, deed{p, 8*x + y, of(2*x, 2*y, 2*x+2, 2*y), 8*x + y + 1})
		}
	}
	for i, got := range p.Parcels {
		x, y := 2*(i/8), 2*(i%8)
		if want := parcel(i+1, "Ann", x, y, x+2, y, x+2, y+2, x, y+2); !slices.Equal(got.Ring, want.Ring) || got.ID != want.ID || got.Owner != "Ann" {
			t.Errorf("parcel %v, want %v", got, want)
		}
	}
	if len(p.Parcels) != api.MaxParcels {
		t.Fatalf("%d parcels", len(p.Parcels))
	}
	for _, c := range more {
		refuse(t, c.name, deed{p, c.id, c.path, c.fresh}, api.ErrCross)
	}
	refuse(t, "a parcel that is there", deed{p, 10, of(2, 2, 4, 4), 64}, api.ErrThere)
}

// P6.1

// unsound are plans that are not sound, each by another of chapter 5's sentences.
func unsound() map[string]api.Plan {
	change := func(to func(p *api.Plan)) api.Plan {
		p := copied(halves())
		to(&p)
		return p
	}
	many := lay(of(0, 0, 65, 0, 65, 1, 0, 1))
	for x := range 65 {
		many.Parcels = append(many.Parcels, parcel(x+3, "", x, 0, x+1, 0, x+1, 1, x, 1))
	}
	return map[string]api.Plan{
		"very many parcels":                 lay(square().Outer, make([]api.Parcel, 3000)...),
		"very many corners":                 lay(often(5000, at(0, 0)), parcel(3, "", 0, 0, 4, 0, 4, 4, 0, 4)),
		"nothing":                           {},
		"no parcel":                         lay(square().Outer),
		"too many parcels":                  many,
		"IDs that don't rise":               change(func(p *api.Plan) { slices.Reverse(p.Parcels) }),
		"an ID twice":                       change(func(p *api.Plan) { p.Parcels[1].ID = 3 }),
		"an ID of 0":                        change(func(p *api.Plan) { p.Parcels[0].ID = 0 }),
		"an ID above MaxID":                 change(func(p *api.Plan) { p.Parcels[1].ID = api.MaxID + 1 }),
		"an owner that is none":             change(func(p *api.Plan) { p.Parcels[1].Owner = "\n" }),
		"an Outer begun elsewhere":          change(func(p *api.Plan) { p.Outer = slices.Concat(p.Outer[1:], p.Outer[:1]) }),
		"a ring begun elsewhere":            change(func(p *api.Plan) { p.Parcels[0].Ring = of(2, 0, 2, 4, 0, 4, 0, 0) }),
		"a ring that runs to the right":     change(func(p *api.Plan) { p.Parcels[0].Ring = of(0, 0, 0, 4, 2, 4, 2, 0) }),
		"a ring without corners":            change(func(p *api.Plan) { p.Parcels[0].Ring = nil }),
		"a corner that is not Good":         change(func(p *api.Plan) { p.Outer[2] = at(limit+1, 0); p.Parcels[1].Ring[1] = at(limit+1, 0) }),
		"a corner that another lacks":       change(func(p *api.Plan) { p.Parcels[0].Ring = of(0, 0, 2, 0, 2, 2, 2, 4, 0, 4) }),
		"a corner that the territory lacks": change(func(p *api.Plan) { p.Outer = of(0, 0, 4, 0, 4, 4, 2, 4, 0, 4) }),
		"a gap":                             change(func(p *api.Plan) { p.Parcels = p.Parcels[:1] }),
		"land twice":                        lay(square().Outer, parcel(3, "", 0, 0, 4, 0, 4, 4, 0, 4), parcel(7, "", 0, 0, 4, 0, 4, 4, 0, 4)),
	}
}

// A way is a path and what is at fault with it, for parcel 3 of the halves.
type way struct {
	path  api.Ring
	fault api.Errno
}

// often is a path that has one point so many times.
func often(points int, p api.Point) api.Ring {
	return slices.Repeat(api.Ring{p}, points)
}

// long is a path of so many points, from one end to the other within the left half.
func long(points int, first, last api.Point) api.Ring {
	return slices.Concat(api.Ring{first}, often(points-2, at(1, 1)), api.Ring{last})
}

func ways() []way {
	list := []way{
		{of(0, 2, 2, 2), api.OK}, {of(2, 2, 0, 2), api.OK}, {of(0, 0, 2, 4), api.OK}, {of(0, 1, 1, 2, 1, 3, 0, 3), api.OK},
		// How many points there are is told ahead of where they are.
		{nil, api.ErrArg}, {api.Ring{}, api.ErrArg}, {of(0, 2), api.ErrArg}, {of(1, 1), api.ErrArg}, {of(9, 9), api.ErrArg}, {of(limit+1, 2), api.ErrArg},
		{long(129, at(0, 2), at(2, 2)), api.ErrArg}, {long(129, at(0, 2), at(0, 2)), api.ErrArg}, {long(129, at(1, 1), at(9, 9)), api.ErrArg},
		{often(129, at(0, math.MinInt)), api.ErrArg}, {often(4000, at(0, 0)), api.ErrArg},
		{long(129, at(limit+1, 2), at(2, 2)), api.ErrArg},
		// With as many as may be, what follows is told.
		{long(128, at(0, 2), at(2, 2)), api.ErrCross}, {long(127, at(0, 2), at(2, 2)), api.ErrCross},
		{long(128, at(0, 2), at(0, 2)), api.ErrSide}, {long(128, at(0, 2), at(1, 2)), api.ErrSide},
		{long(128, at(0, 2), at(2, -limit-1)), api.ErrRange}, {often(128, at(0, limit+1)), api.ErrRange},
		// One end is not on the border.
		{of(1, 2, 2, 2), api.ErrSide}, {of(0, 2, 1, 2), api.ErrSide}, // within
		{of(-1, 2, 2, 2), api.ErrSide}, {of(0, 2, -1, 2), api.ErrSide}, // outside the territory
		{of(3, 2, 0, 2), api.ErrSide}, {of(0, 2, 3, 2), api.ErrSide}, // within another
		{of(3, 0, 0, 2), api.ErrSide}, {of(0, 2, 4, 2), api.ErrSide}, // on another's border
		{of(4, 4, 0, 2), api.ErrSide}, {of(0, 2, 4, 4), api.ErrSide}, // at another's corner
		{of(0, 5, 2, 2), api.ErrSide}, {of(0, 2, 2, -1), api.ErrSide}, // in line with an edge, beyond its end
		{of(limit, limit, 2, 2), api.ErrSide}, {of(0, 2, -limit, 2), api.ErrSide},
		{of(1, 2, 1, 1, 2, 2), api.ErrSide}, {of(0, 2, 1, 1, 1, 2), api.ErrSide},
		// Both are not.
		{of(1, 1, 1, 2), api.ErrSide}, {of(-1, 2, 5, 2), api.ErrSide}, {of(1, 1, 9, 9), api.ErrSide}, {of(3, 3, 1, 1, 4, 4), api.ErrSide},
		// Both are one.
		{of(0, 2, 0, 2), api.ErrSide}, {of(0, 0, 0, 0), api.ErrSide}, {of(2, 4, 2, 4), api.ErrSide}, {of(1, 1, 1, 1), api.ErrSide}, {of(9, 9, 9, 9), api.ErrSide},
		{of(0, 2, 1, 1, 0, 2), api.ErrSide}, {of(0, 2, 1, 1, 1, 3, 0, 2), api.ErrSide}, {of(0, 0, 1, 1, 1, 2, 0, 0), api.ErrSide},
		{of(1, 1, 1, 2, 1, 1), api.ErrSide}, {of(2, 2, 1, 2, 2, 2), api.ErrSide},
		// What would cross is told behind all that.
		{of(0, 1, 0, 3), api.ErrCross}, {of(0, 2, 5, 2, 0, 3), api.ErrCross}, {of(2, 1, 3, 1, 3, 3, 2, 3), api.ErrCross},
		{of(0, 2, 5, 2, 1, 3), api.ErrSide}, {of(1, 2, 5, 2, 0, 3), api.ErrSide}, {of(0, 2, 5, 2, 0, 2), api.ErrSide}, {of(1, 1, 5, 2, 5, 2, 1, 1), api.ErrSide},
	}
	for _, n := range []int{limit + 1, -limit - 1, math.MaxInt, math.MinInt, math.MaxInt - 2, 1 << 32} {
		for _, bad := range []api.Point{at(n, 2), at(2, n), at(n, n)} {
			for _, path := range []api.Ring{
				{bad, at(2, 2)}, {at(0, 2), bad}, {bad, bad}, {at(0, 2), bad, at(2, 2)}, {at(0, 2), at(1, 1), bad, at(2, 2)},
				{bad, at(1, 1)}, {at(9, 9), bad}, {at(1, 1), bad, at(2, 2)}, {at(0, 2), bad, at(1, 1)}, {at(0, 2), bad, at(0, 2)}, // and ends not on the border, or one
				{bad, at(1, 1), bad}, {at(0, 1), bad, at(0, 1), at(0, 3)}, {at(1, 1), at(1, 1), bad, at(1, 1)},
			} {
				list = append(list, way{path, api.ErrRange})
			}
		}
	}
	return list
}

// Each fault of each argument, with each of the others: the one that the chapter names first is told.
func TestWhichError(t *testing.T) {
	numbers := []int{3, 7, 1, 2, 5, 8, api.MaxID - 1, api.MaxID, 0, -1, -3, api.MaxID + 1, api.MaxID + 7, 1 << 32, math.MinInt, math.MaxInt}
	for _, there := range [][2]int{{3, 7}, {1, 2}, {1, api.MaxID}} {
		p := halves()
		p.Parcels[0].ID, p.Parcels[1].ID = there[0], there[1]
		for _, id := range numbers {
			if id == there[1] {
				continue // the ways are told of the other one
			}
			for _, fresh := range numbers {
				for _, way := range ways() {
					d := deed{p, id, way.path, fresh}
					want := expected(d, there, way)
					got, e := split(d)
					if e != want || e != api.OK && !equal(got, api.Plan{}) || e == api.OK && d.holds(got) != "" {
						t.Fatalf("%v: %v, error %d, want %d", d, got, e, want)
					}
				}
			}
		}
	}
}

// expected looks at the arguments one by one, in the chapter's order.
func expected(d deed, there [2]int, way way) api.Errno {
	switch {
	case d.id != there[0]:
		return api.ErrNone
	case d.fresh < 1 || d.fresh > api.MaxID || way.fault == api.ErrArg:
		return api.ErrArg
	case d.fresh == there[0] || d.fresh == there[1]:
		return api.ErrThere
	}
	return way.fault
}

func TestPlansThatAreNotSound(t *testing.T) {
	for name, p := range unsound() {
		if plan.Check(p) != api.ErrForm {
			t.Fatalf("%s is sound", name)
		}
		for _, way := range ways() {
			for _, id := range []int{3, 7, 0, 5} {
				for _, fresh := range []int{5, 3, 7, 0, api.MaxID + 1} {
					refuse(t, name, deed{p, id, way.path, fresh}, api.ErrForm)
				}
			}
		}
	}
}

// All points around the halves as first and as last: on the border, at corners, within and outside, of both parcels.
func TestEndsOfAllPlaces(t *testing.T) {
	for _, id := range []int{3, 7} {
		for _, other := range []api.Point{at(0, 2), at(2, 2), at(4, 2), at(2, 0), at(0, 0), at(4, 4)} {
			for _, p := range grid(at(-1, -1), at(5, 5)) {
				for _, path := range []api.Ring{{p, other}, {other, p}, {p, at(1, 1), other}, {other, at(3, 1), p}} {
					judge(t, deed{halves(), id, path, 5})
				}
			}
		}
	}
}

// R4 and R5

func spoilRing(r api.Ring) {
	for i := range r[:cap(r)] {
		r[:cap(r)][i] = at(-77, -77)
	}
}

func spoil(p api.Plan) {
	spoilRing(p.Outer)
	all := p.Parcels[:cap(p.Parcels)]
	for i := range all {
		spoilRing(all[i].Ring)
		all[i] = api.Parcel{ID: -77, Owner: "spoilt"}
	}
}

// roomy answers a list with spare room, and all that it has room for.
func roomy[T any](list []T, spare ...T) (roomy, whole []T) {
	whole = slices.Concat(list, spare)
	return whole[:len(list):len(whole)], whole
}

// same asks the same split twice, of lists with spare room, spoils the first answer, and then looks whether the arguments and the second answer are what they were.
func same(t *testing.T, c named) {
	t.Helper()
	spare := of(7, 7, 8, 8, 9, 9)
	var whole []api.Ring
	keep := func(r api.Ring) api.Ring {
		list, all := roomy(r, spare...)
		whole = append(whole, all)
		return list
	}
	p := lay(keep(c.plan.Outer))
	for _, parcel := range c.plan.Parcels {
		parcel.Ring = keep(parcel.Ring)
		p.Parcels = append(p.Parcels, parcel)
	}
	parcels, all := roomy(p.Parcels, parcel(1, "spare", 1, 1), parcel(99, "spare", 2, 2))
	p.Parcels = parcels
	path := keep(c.path)
	was, wereAll := slices.Clone(whole), copied(lay(nil, all...))
	for i, r := range was {
		was[i] = slices.Clone(r)
	}
	one, _ := cut.Split(p, c.id, path, c.fresh)
	two, _ := cut.Split(p, c.id, path, c.fresh)
	spoil(one)
	if !slices.EqualFunc(whole, was, slices.Equal[api.Ring]) || !equal(lay(nil, all...), wereAll) {
		t.Errorf("%s: what was handed in is otherwise now", c.name)
	}
	for _, r := range whole {
		spoilRing(r)
	}
	spoil(p)
	if !equal(two, c.want) {
		t.Errorf("%s: what was answered became %v", c.name, two)
	}
}

func TestMemoryIsNotShared(t *testing.T) {
	for _, c := range slices.Concat(splits(), crossings()) {
		same(t, c)
	}
	for _, way := range ways() {
		if way.fault != api.OK {
			same(t, named{name: fmt.Sprint("a path that is refused ", len(way.path)), deed: deed{halves(), 3, way.path, 5}})
		}
	}
	for name, p := range unsound() {
		same(t, named{name: name, deed: deed{p, 3, of(0, 2, 2, 2), 5}})
	}
}

// No two lists of one answer share memory, not even spare room.
func TestListsOfOneAnswer(t *testing.T) {
	for _, c := range splits() {
		got, _ := split(c.deed)
		rings := []api.Ring{got.Outer}
		for _, parcel := range got.Parcels {
			rings = append(rings, parcel.Ring)
		}
		for i, r := range rings {
			for k := range r[:cap(r)] {
				r[:cap(r)][k] = at(i, i)
			}
		}
		for i, r := range rings {
			if slices.ContainsFunc(r[:cap(r)], func(p api.Point) bool { return p != at(i, i) }) {
				t.Errorf("%s: ring %d shares its memory", c.name, i)
			}
		}
	}
}

// The same calls have the same answers, in whatever order they come.
func TestNothingIsKept(t *testing.T) {
	list := slices.Concat(splits(), crossings())
	slices.Reverse(list)
	for _, c := range slices.Concat(list, list) {
		if got, e := split(c.deed); !equal(got, c.want) || (e == api.OK) != (len(c.want.Parcels) > 0) {
			t.Errorf("%s: %v, error %d, want %v", c.name, got, e, c.want)
		}
	}
}
