package join_test

import (
	"fmt"
	"math"
	"slices"
	"strings"
	"testing"

	"merestone/api"
	"merestone/cut"
	"merestone/join"
	"merestone/plan"
)

// The call as the chapter lists it: this does not compile if it is another.
var _ func(api.Plan, int, int) (api.Plan, api.Errno) = join.Merge

func TestChapterExample(t *testing.T) {
	p, _ := plan.Begin(of(0, 0, 4, 0, 4, 4, 0, 4), 1, "Ann")
	p, e := cut.Split(p, 1, of(2, 0, 2, 4), 2)
	if e != api.OK {
		t.Fatalf("Split: error %d", e)
	}
	got, e := join.Merge(p, 1, 2)
	border := of(0, 0, 2, 0, 4, 0, 4, 4, 2, 4, 0, 4)
	if want := lay(border, api.Parcel{ID: 1, Ring: border, Owner: "Ann"}); e != api.OK || !equal(got, want) {
		t.Errorf("%v, error %d, want %v", got, e, want)
	}
}

// Merges that are done

func TestMerges(t *testing.T) {
	for _, c := range merges() {
		for _, v := range views() {
			d, want := deed{v.plan(c.deed.plan), c.deed.into, c.deed.other}, v.plan(c.want)
			got, e := merge(d)
			if e != api.OK || !equal(got, want) {
				t.Fatalf("%s, %s: %v, error %d, want %v", c.name, v.name, got, e, want)
			}
			judge(t, d)
		}
	}
}

// landOf answers the parcels that have (x / 2, y / 2), with their borders.
func landOf(p api.Plan, x, y int) []int {
	within, on, _ := plan.Cover(p, x, y, 2)
	return slices.Concat(within, on)
}

// Whatever point either of both had, the one that is left has, and no other: looked at on a grid of halves.
func TestLandOfBoth(t *testing.T) {
	for _, c := range shapes() {
		got, _ := merge(c.deed)
		for x := -1; x <= 17; x++ {
			for y := -1; y <= 13; y++ {
				was, is := landOf(c.deed.plan, x, y), landOf(got, x, y)
				either := slices.Contains(was, c.deed.into) || slices.Contains(was, c.deed.other)
				if slices.Contains(is, c.deed.into) != either || slices.Contains(is, c.deed.other) {
					t.Fatalf("%s: the point (%d / 2, %d / 2) was of %v, is of %v", c.name, x, y, was, is)
				}
			}
		}
	}
}

// place tells how many edges of the first ring are the second one's too, up to three, and whereabouts in the first they are.
func place(one, other api.Ring) string {
	left := alone(one, other)
	first, last := edges(one)[0], edges(one)[len(one)-1]
	where := "in the middle"
	switch begun, ended := !slices.Contains(left, first), !slices.Contains(left, last); {
	case begun && ended:
		where = "around the beginning"
	case begun:
		where = "at the beginning"
	case ended:
		where = "at the end"
	}
	return fmt.Sprint(min(3, len(one)-len(left)), " ", where)
}

// eachDrawing goes through all drawings of three rows of three cells with up to so many parcels, and cells that are empty, if there may be some.
func eachDrawing(empty bool, parcels int, look func(rows ...string)) {
	cells := make([]byte, 9)
	var fill func(at, used int)
	fill = func(at, used int) {
		if at == len(cells) {
			look(string(cells[:3]), string(cells[3:6]), string(cells[6:]))
			return
		}
		if empty {
			cells[at] = ' '
			fill(at+1, used)
		}
		for c := range min(used+1, parcels) {
			cells[at] = byte('a' + c)
			fill(at+1, max(used, c+1))
		}
	}
	fill(0, 0)
}

// All parcels of all plans of a few cells, each with each, with all corners of the grid and with none that may go. Beside what they tell, the edges in common are one, two and more at all places of a ring where they can be.
func TestAllSmallDrawings(t *testing.T) {
	for _, c := range []struct {
		empty   bool
		parcels int
	}{{false, 4}, {true, 3}} {
		t.Run(fmt.Sprint(c), func(t *testing.T) {
			t.Parallel()
			told, places := map[api.Errno]int{}, map[string]int{}
			look := func(d deed) {
				_, e := judge(t, d)
				told[e]++
				if e == api.OK {
					places[place(ringOf(d.plan, d.into), ringOf(d.plan, d.other))]++
				}
			}
			eachDrawing(c.empty, c.parcels, func(rows ...string) {
				if p, ok := drawn(rows...); ok {
					eachTwo(p, look)
					eachTwo(thinned(p), look)
				}
			})
			t.Log(told, places)
			if told[api.OK] < 1000 || told[api.ErrHole] < 40 || told[api.ErrSide] < 1000 || len(places) != 11 {
				t.Errorf("told %v, at %v", told, places)
			}
		})
	}
}

// drawing answers numbers that look like chance, the same at each run.
func drawing(seed uint64) func(below int) int {
	return func(below int) int {
		seed = seed*6364136223846793005 + 1442695040888963407
		return int(seed>>33) % below
	}
}

// grown draws parcels that grow cell by cell from single ones, till there is no more room.
func grown(draw func(int) int, columns, rows, parcels int) []string {
	cells := []byte(strings.Repeat(" ", columns*rows))
	for c := range parcels {
		cells[draw(len(cells))] = byte('a' + c)
	}
	for range 40 * len(cells) {
		from := draw(len(cells))
		to := from + []int{1, -1, columns, -columns}[draw(4)]
		if to < 0 || to >= len(cells) || cells[to] != ' ' || from/columns != to/columns && from%columns != to%columns {
			continue
		}
		cells[to] = cells[from]
	}
	var list []string
	for row := range slices.Chunk(cells, columns) {
		list = append(list, string(row))
	}
	return list
}

// All parcels of larger plans, each with each, till one is left.
func TestLargerDrawings(t *testing.T) {
	for seed := range uint64(8) {
		t.Run(fmt.Sprint(seed), func(t *testing.T) {
			t.Parallel()
			draw, told, plans := drawing(seed), map[api.Errno]int{}, 0
			for range 30 {
				p, ok := drawn(grown(draw, 4+draw(4), 4+draw(4), 3+draw(8))...)
				if !ok {
					continue
				}
				plans++
				if draw(2) == 0 {
					p = thinned(p)
				}
				for more := true; more; {
					next := api.Plan{}
					eachTwo(p, func(d deed) {
						got, e := judge(t, d)
						told[e]++
						if e == api.OK && (next.Parcels == nil || draw(3) == 0) {
							next = got
						}
					})
					p, more = next, next.Parcels != nil
				}
			}
			t.Log(plans, told)
			if plans < 20 || told[api.OK] < 500 || told[api.ErrSide] < 500 || told[api.ErrHole] < 10 {
				t.Errorf("%d plans, told %v", plans, told)
			}
		})
	}
}

// Merge of what Split made

// marked answers r with both points as corners, if they lie on an edge between its ends.
func marked(r api.Ring, first, last api.Point) api.Ring {
	for _, p := range []api.Point{first, last} {
		for i, e := range edges(r) {
			if on(e, p) && p != e.A && p != e.B {
				r = slices.Insert(slices.Clone(r), i+1, p)
				break
			}
		}
	}
	return r
}

// again splits a parcel, and merges both parts: the plan is as it was, but for corners where the path's ends lie on edges. It answers false, if the parcel can't be split so.
func again(t *testing.T, p api.Plan, id int, path api.Ring, fresh int) (api.Plan, bool) {
	t.Helper()
	split, e := cut.Split(p, id, path, fresh)
	if e != api.OK {
		return p, false
	}
	first, last := path[0], path[len(path)-1]
	want := lay(marked(p.Outer, first, last), slices.Clone(p.Parcels)...)
	for i := range want.Parcels {
		want.Parcels[i].Ring = marked(want.Parcels[i].Ring, first, last)
	}
	renamed := copied(want)
	for i := range renamed.Parcels {
		if renamed.Parcels[i].ID == id {
			renamed.Parcels[i].ID = fresh
		}
	}
	slices.SortFunc(renamed.Parcels, func(a, b api.Parcel) int { return a.ID - b.ID })
	for _, c := range []named{{"", deed{split, id, fresh}, want}, {"", deed{split, fresh, id}, renamed}} {
		if got, e := merge(c.deed); e != api.OK || !equal(got, c.want) {
			t.Fatalf("parcel %d along %v of %v: %v, error %d, want %v", id, path, p, got, e, c.want)
		}
	}
	return split, true
}

// grid is all points from low to high.
func grid(low, high api.Point) []api.Point {
	var list []api.Point
	for x := low.X; x <= high.X; x++ {
		for y := low.Y; y <= high.Y; y++ {
			list = append(list, at(x, y))
		}
	}
	return list
}

// All paths of two points of a small grid, and of plans of one and two parcels those of three with every other point between. The new parcel comes behind the others by its ID, or ahead of them.
func TestSplitAndMergedAgain(t *testing.T) {
	for name, p := range map[string]api.Plan{
		"square": square(), "halves": halves(), "crossroads": crossroads(), "bay": bay(), "rhombs": rhombs(), "notch": notch(),
	} {
		t.Run(name, func(t *testing.T) {
			t.Parallel()
			points, splits := grid(at(0, 0), at(6, 4)), 0
			try := func(path ...api.Point) {
				for i, parcel := range p.Parcels {
					if _, ok := again(t, p, parcel.ID, path, []int{50, 1, api.MaxID}[i%3]); ok {
						splits++
					}
				}
			}
			for _, first := range points {
				for _, last := range points {
					try(first, last)
					for _, between := range points {
						if len(p.Parcels) < 3 && (between.X+between.Y)%2 == 1 {
							try(first, between, last)
						}
					}
				}
			}
			if splits < 20 {
				t.Errorf("%d splits alone", splits)
			}
		})
	}
}

// onBorder are the points of the list that lie on a border.
func onBorder(border api.Ring, list []api.Point) []api.Point {
	return slices.DeleteFunc(slices.Clone(list), func(at api.Point) bool {
		return !slices.ContainsFunc(edges(border), func(e api.Edge) bool { return on(e, at) })
	})
}

// Splits one after the other, of what came of the splits ahead, and then merges, till one is left.
func TestManySplitsAndMerges(t *testing.T) {
	for seed := range uint64(6) {
		t.Run(fmt.Sprint(seed), func(t *testing.T) {
			t.Parallel()
			draw := drawing(seed)
			p := lay(of(0, 0, 12, 0, 9, 12, 0, 9), parcel(1000, "Ann", 0, 0, 12, 0, 9, 12, 0, 9))
			points := grid(at(0, 0), at(12, 12))
			for range 3000 {
				chosen, fresh := p.Parcels[draw(len(p.Parcels))], 1+draw(2000)
				border := onBorder(chosen.Ring, points)
				path := api.Ring{border[draw(len(border))]}
				for range draw(3) {
					path = append(path, points[draw(len(points))])
				}
				path = append(path, border[draw(len(border))])
				if len(p.Parcels) < 16 {
					p, _ = again(t, p, chosen.ID, path, fresh)
				}
			}
			if len(p.Parcels) < 10 {
				t.Fatalf("%d parcels alone", len(p.Parcels))
			}
			outer := p.Outer
			for len(p.Parcels) > 1 {
				one, other := draw(len(p.Parcels)), draw(len(p.Parcels))
				if one == other {
					continue
				}
				if got, e := judge(t, deed{p, p.Parcels[one].ID, p.Parcels[other].ID}); e == api.OK {
					p = got
				}
			}
			if !slices.Equal(p.Parcels[0].Ring, outer) || !slices.Equal(p.Outer, outer) {
				t.Errorf("what is left is %v, not all of %v", p, outer)
			}
		})
	}
}

// Limits

// strips is a plan of upright strips, side by side; borders tells how many edges each upright border has, the territory's two among them.
func strips(t *testing.T, borders ...int) api.Plan {
	p := uneven(borders...)
	if plan.Check(p) != api.OK {
		t.Fatalf("strips %v are not sound", borders)
	}
	return p
}

func uneven(borders ...int) api.Plan {
	border := func(i int) api.Ring {
		var r api.Ring
		for y := range borders[i] {
			r = append(r, at(4*i+y%2, y))
		}
		return append(r, at(4*i, 1000))
	}
	downward := func(i int) api.Ring {
		r := border(i)
		slices.Reverse(r)
		return r
	}
	var p api.Plan
	last := len(borders) - 1
	for i := range last {
		p.Parcels = append(p.Parcels, api.Parcel{ID: i + 1, Ring: least(slices.Concat(border(i+1), downward(i))), Owner: "Ann"})
		p.Outer = append(p.Outer, at(4*i, 0))
	}
	p.Outer = append(p.Outer, border(last)...)
	for i := last - 1; i > 0; i-- {
		p.Outer = append(p.Outer, at(4*i, 1000))
	}
	left := downward(0)
	p.Outer = least(append(p.Outer, left[:len(left)-1]...))
	return p
}

// The way around two strips has two corners on each side of either border, and one a step of it between.
func TestBordersAsLongAsMayBe(t *testing.T) {
	for _, c := range []struct {
		left, right int
		want        api.Errno
	}{
		{61, 62, api.OK}, {62, 62, api.OK}, {123, 1, api.OK}, {1, 123, api.OK}, {64, 60, api.OK},
		{62, 63, api.ErrCross}, {63, 62, api.ErrCross}, {124, 1, api.ErrCross}, {1, 124, api.ErrCross},
		{63, 63, api.ErrCross}, {1, 125, api.ErrCross}, {90, 91, api.ErrCross}, {125, 125, api.ErrCross},
	} {
		d := deed{strips(t, 1, c.left, 1, c.right, 1), 2, 3}
		for _, d := range []deed{d, d.turned()} {
			got, e := judge(t, d)
			if e != c.want {
				t.Errorf("borders of %d and %d edges: error %d, want %d", c.left, c.right, e, c.want)
			}
			if e == api.OK && len(ringOf(got, d.into)) != c.left+c.right+4 {
				t.Errorf("borders of %d and %d edges: %d corners", c.left, c.right, len(ringOf(got, d.into)))
			}
		}
	}
	whole := strips(t, 62, 1, 62)
	for _, d := range []deed{{whole, 1, 2}, {whole, 2, 1}} {
		if got := done(t, d); len(got.Outer) != api.MaxPoints || !slices.Equal(ringOf(got, d.into), got.Outer) {
			t.Errorf("%v: %v", d, got)
		}
	}
	long := strips(t, 1, 1, 124, 1, 1)
	for _, d := range []deed{{long, 2, 3}, {long, 3, 2}} {
		if got := done(t, d); len(ringOf(got, d.into)) != 6 {
			t.Errorf("a common border of 124 edges: %v", got)
		}
	}
}

// Where more than MaxPoints corners would be left, but something else is at fault, that is told.
func TestTooManyCornersAndMore(t *testing.T) {
	crowded := strips(t, 1, 62, 1, 63, 1)
	refuse(t, "too many corners", deed{crowded, 2, 3}, api.ErrCross)
	refuse(t, "one, with many corners", deed{crowded, 2, 2}, api.ErrArg)
	for _, d := range []deed{{crowded, 2, 5}, {crowded, 5, 3}, {crowded, 5, 6}, {crowded, 5, 5}} {
		refuse(t, "not there, with many corners", d, api.ErrNone)
	}
	for _, d := range []deed{{strips(t, 1, 62, 1, 1, 62, 1), 2, 4}, {strips(t, 1, 125, 1, 1, 125, 1), 2, 4}} {
		refuse(t, "apart, with too many corners", d, api.ErrSide)
		refuse(t, "apart, with too many corners", d.turned(), api.ErrSide)
	}
	for _, borders := range [][]int{{1, 62, 1, 62, 1}, {1, 62, 1, 63, 1}, {1, 90, 1, 90, 1}} {
		p, e := cut.Split(strips(t, borders...), 2, of(8, 200, 7, 200, 7, 100, 8, 100), 9)
		if e != api.OK {
			t.Fatalf("Split: error %d", e)
		}
		for _, d := range []deed{{p, 2, 3}, {p, 3, 2}} {
			judge(t, d)
			refuse(t, "a hole, with too many corners", d, api.ErrHole)
		}
	}
}

// A strip of so many corners is split from its lowest edge to its highest, or a corner of that: corners that Split put on edges may be too many for the strip as it was.
func TestSplitWithoutRoomToMerge(t *testing.T) {
	for _, c := range []struct {
		corners int
		path    api.Ring
		want    api.Errno
	}{
		{126, of(6, 0, 6, 1000), api.OK}, {127, of(6, 0, 4, 1000), api.OK}, {128, of(4, 1000, 8, 0), api.OK},
		{127, of(6, 0, 6, 1000), api.ErrCross}, {128, of(6, 0, 4, 1000), api.ErrCross}, {128, of(6, 1000, 6, 0), api.ErrCross},
	} {
		p, e := cut.Split(strips(t, 1, 63, c.corners-65, 1), 2, c.path, 7)
		if e != api.OK {
			t.Fatalf("Split along %v: error %d", c.path, e)
		}
		for _, d := range []deed{{p, 2, 7}, {p, 7, 2}} {
			if _, e := judge(t, d); e != c.want {
				t.Errorf("%d corners, split along %v: error %d, want %d", c.corners, c.path, e, c.want)
			}
		}
	}
}

func corners(p api.Plan) int {
	return len(slices.Concat(rings(p)...))
}

// block is a plan of so many parcels along, and so many up.
func block(along, up int) api.Plan {
	p := api.Plan{}
	for x := range along {
		for y := range up {
			p.Parcels = append(p.Parcels, parcel(len(p.Parcels)+1, "Ann", x, y, x+1, y, x+1, y+1, x, y+1))
		}
	}
	for x := range along {
		p.Outer = append(p.Outer, at(x, 0))
	}
	for y := range up {
		p.Outer = append(p.Outer, at(along, y))
	}
	for x := range along {
		p.Outer = append(p.Outer, at(along-x, up))
	}
	for y := range up {
		p.Outer = append(p.Outer, at(0, up-y))
	}
	return p
}

// MaxParcels parcels are merged, till one is left.
func TestAsManyParcelsAsThereMayBe(t *testing.T) {
	p := block(8, 8)
	if len(p.Parcels) != api.MaxParcels {
		t.Fatalf("%d parcels", len(p.Parcels))
	}
	for _, d := range []deed{{p, 1, 64}, {p, 1, 10}, {p, 64, 1}, {p, 64, 63}, {p, 63, 64}, {p, 28, 27}, {p, 28, 36}, {p, 28, 37}} {
		judge(t, d)
	}
	for other := 2; other <= api.MaxParcels; other++ {
		p = done(t, deed{p, 1, other})
	}
	if want := lay(p.Outer, api.Parcel{ID: 1, Ring: block(8, 8).Outer, Owner: "Ann"}); !equal(p, want) {
		t.Errorf("%v, want %v", p, want)
	}
}

func TestAsManyCornersAsThereMayBe(t *testing.T) {
	p := strips(t, 1, 62, 61, 62, 61, 62, 61, 62, 61, 1)
	if corners(p) != api.MaxCorners {
		t.Fatalf("%d corners", corners(p))
	}
	for _, d := range []deed{{p, 1, 2}, {p, 3, 2}, {p, 4, 5}, {p, 9, 8}} {
		done(t, d)
	}
	refuse(t, "strips that are apart", deed{p, 1, 3}, api.ErrSide)
}

// At the ends of what is Good: no corner is one to spare.
func TestAtTheLimits(t *testing.T) {
	low, high := -limit, limit
	p := lay(of(low, low, 0, low, high, low, high, 0, high, high, 0, high, low, high, low, 0),
		parcel(1, "Ann", low, low, 0, low, 0, 0, low, 0), parcel(2, "Bob", 0, low, high, low, high, 0, 0, 0),
		parcel(3, "Cid", low, 0, 0, 0, 0, high, low, high), parcel(api.MaxID, "Dee", 0, 0, high, 0, high, high, 0, high))
	q := lay(of(low, low, high, low, high, high, low, high),
		parcel(1, "Ann", low, low, high, low, high-1, high-1), parcel(2, "Bob", high-1, high-1, high, low, high, high), parcel(3, "Cid", low, low, high-1, high-1, high, high, low, high))
	for _, c := range slices.Concat(
		both("the lower half", p, 1, 2, of(low, low, 0, low, high, low, high, 0, 0, 0, low, 0)),
		both("the upper half", p, 3, api.MaxID, of(low, 0, 0, 0, high, 0, high, high, 0, high, low, high)),
		both("the left half", p, 1, 3, of(low, low, 0, low, 0, 0, 0, high, low, high, low, 0)),
		both("the right half", p, 2, api.MaxID, of(0, low, high, low, high, 0, high, high, 0, high, 0, 0)),
		both("two triangles", q, 1, 2, of(low, low, high, low, high, high, high-1, high-1)),
		both("a sliver beside", q, 2, 3, of(low, low, high-1, high-1, high, low, high, high, low, high)),
		both("a long border", q, 1, 3, of(low, low, high, low, high-1, high-1, high, high, low, high)),
	) {
		if got, e := merge(c.deed); e != api.OK || !equal(got, c.want) {
			t.Errorf("%s: %v, error %d, want %v", c.name, got, e, c.want)
		}
	}
	refuse(t, "across", deed{p, 1, api.MaxID}, api.ErrSide)
	refuse(t, "across", deed{p, 3, 2}, api.ErrSide)
}

// Merges that are refused

// A refusal is a merge of two parcels that are there, and its error.
type refusal struct {
	name  string
	deed  deed
	fault api.Errno
}

func refusals() []refusal {
	var list []refusal
	add := func(fault api.Errno, name string, p api.Plan, one, other int) {
		list = append(list, refusal{name, deed{p, one, other}, fault}, refusal{name + ", the other one first", deed{p, other, one}, fault})
	}
	add(api.ErrSide, "two far apart", bands(), 2, 6)
	add(api.ErrSide, "two far apart, with four between", draw("acdefb"), 1, 2)
	add(api.ErrSide, "a corner in common", crossroads(), 2, 8)
	add(api.ErrSide, "the other corner in common", crossroads(), 4, 6)
	add(api.ErrSide, "a corner of a fan in common", fan(), 1, 3)
	add(api.ErrSide, "a corner in common, that slants", fan(), 4, 5)
	add(api.ErrSide, "two corners in common, with one between", draw("dbe", "aca", "aaa"), 1, 2)
	add(api.ErrSide, "two corners in common, with a sliver between", sliver(), 1, 2)
	add(api.ErrSide, "borders in line, with one between", draw("acb", "ddd"), 1, 2)
	add(api.ErrSide, "borders in line, with a corner in common", draw("ccbb", "aadd"), 1, 2)
	add(api.ErrSide, "one within two others", draw("ccccc", "cbbbc", "cbabc"), 1, 3)
	add(api.ErrSide, "borders beside each other, with a strip between", lay(of(0, 0, 7, 0, 8, 0, 15, 0, 15, 9, 8, 9, 7, 9, 0, 9),
		parcel(1, "Ann", 0, 0, 7, 0, 7, 9, 0, 9), parcel(2, "Bob", 8, 0, 15, 0, 15, 9, 8, 9), parcel(3, "Cid", 7, 0, 8, 0, 8, 9, 7, 9)), 1, 2)
	add(api.ErrHole, "a border in two parts, with one between", draw("aab", "acb", "abb"), 1, 2)
	add(api.ErrHole, "a border in two parts, with a triangle between", triangle(), 1, 2)
	add(api.ErrHole, "an edge and a corner, with a triangle between", corner(), 1, 2)
	add(api.ErrHole, "a border in two parts, with two between", draw("aabb", "acdb", "aabb"), 1, 2)
	add(api.ErrHole, "a border in two parts, with others around", draw("eeeee", "eaabf", "eacbf", "eabbf", "fffff"), 1, 2)
	add(api.ErrHole, "a border in three parts", draw("aaaaaaa", "acabada", "bbbbbbb"), 1, 2)
	add(api.ErrHole, "one that lies round another, and what shuts it off", stacked(), 2, 6)
	add(api.ErrHole, "one that lies round two, and what shuts one off", draw("adda", "abba", "acca", "aaaa"), 1, 2)
	add(api.ErrHole, "one that lies round three, and what shuts two off", draw("abba", "acda", "aaaa"), 1, 2)
	add(api.ErrHole, "one that nearly closes, and what closes it", draw("aaa", "aca", "aba"), 1, 2)
	add(api.ErrHole, "a border in two parts, with one in a bay between", draw("aaaa", "acba", "bbba"), 1, 2)
	add(api.ErrHole, "an edge and a corner", draw("aab", "acb", "aad"), 1, 2)
	add(api.ErrHole, "an edge and a corner at the territory's border", draw("aab", "acb", "aa "), 1, 2)
	add(api.ErrHole, "an edge and two corners", draw("aabb", "acbb", "aadb", "aebb", "aaff"), 1, 2)
	add(api.ErrHole, "two edges and a corner", draw("aabb", "acdb", "aabb", "aebb", "aaff"), 1, 2)
	return list
}

func TestRefusals(t *testing.T) {
	for _, c := range refusals() {
		for _, v := range views() {
			for _, p := range []api.Plan{v.plan(c.deed.plan), thinned(v.plan(c.deed.plan))} {
				d := deed{p, c.deed.into, c.deed.other}
				if plan.Check(p) != api.OK {
					t.Fatalf("%s, %s: %v is not sound", c.name, v.name, p)
				}
				refuse(t, c.name+", "+v.name, d, c.fault)
				judge(t, d)
			}
		}
	}
}

// each goes through all two numbers that parcels may have or not, beside those of the plan.
func each(p api.Plan, look func(into, other int)) {
	numbers := []int{0, -1, -2, 1, 2, 3, 4, 5, 77, api.MaxID - 1, api.MaxID, api.MaxID + 1, 1 << 32, 1<<32 + 2, math.MinInt, math.MaxInt}
	for _, parcel := range p.Parcels {
		numbers = append(numbers, parcel.ID, -parcel.ID, parcel.ID+1<<32)
	}
	for _, into := range numbers {
		for _, other := range numbers {
			look(into, other)
		}
	}
}

// expected looks at the arguments one by one, in the chapter's order.
func (d deed) expected() api.Errno {
	there := func(id int) bool {
		return slices.ContainsFunc(d.plan.Parcels, func(parcel api.Parcel) bool { return parcel.ID == id })
	}
	switch {
	case !there(d.into) || !there(d.other):
		return api.ErrNone
	case d.into == d.other:
		return api.ErrArg
	}
	return d.fault()
}

// All numbers with all others: one that is not there, or both, or both and one, and those that are.
func TestWhichError(t *testing.T) {
	mixed := draw("aab", "acb", "aad")
	for _, ids := range [][4]int{{2, 4, 6, 8}, {1, 3, 5, api.MaxID}, {2, 3, 4, 5}, {api.MaxID - 3, api.MaxID - 2, api.MaxID - 1, api.MaxID}} {
		p := copied(mixed)
		for i := range p.Parcels {
			p.Parcels[i].ID = ids[i]
		}
		for _, p := range []api.Plan{p, bands(), square(), stacked()} {
			each(p, func(into, other int) {
				d := deed{p, into, other}
				want := d.expected()
				got, e := merge(d)
				if e != want || e != api.OK && !equal(got, api.Plan{}) || e == api.OK && d.holds(got) != "" {
					t.Fatalf("%v: %v, error %d, want %d", d, got, e, want)
				}
			})
		}
	}
	p := halves()
	for what, c := range map[string]struct {
		into, other int
		want        api.Errno
	}{
		"into is not there":              {5, 7, api.ErrNone},
		"other is not there":             {3, 5, api.ErrNone},
		"both are not there":             {5, 6, api.ErrNone},
		"both are not there, and one":    {5, 5, api.ErrNone},
		"both are one":                   {3, 3, api.ErrArg},
		"both are one, the last":         {7, 7, api.ErrArg},
		"both are no numbers of parcels": {0, 0, api.ErrNone},
		"both are below 0":               {-3, -7, api.ErrNone},
	} {
		refuse(t, what, deed{p, c.into, c.other}, c.want)
	}
	refuse(t, "the only one", deed{square(), 5, 5}, api.ErrArg)
}

// Plans that are not sound

// unsound are plans that are not sound, each by another of chapter 5's sentences; parcels 3 and 7, where they are there, could be merged else.
func unsound() map[string]api.Plan {
	change := func(to func(p *api.Plan)) api.Plan {
		p := copied(halves())
		to(&p)
		return p
	}
	return map[string]api.Plan{
		"nothing":                       {},
		"no parcel":                     lay(square().Outer),
		"very many parcels":             lay(square().Outer, make([]api.Parcel, 3000)...),
		"very many corners":             lay(slices.Repeat(of(0, 0), 5000), halves().Parcels...),
		"too many parcels":              block(13, 5),
		"too many corners":              uneven(1, 62, 61, 62, 61, 62, 61, 62, 62, 1),
		"a ring of too many corners":    uneven(1, 1, 1, 64, 63, 1, 1, 1),
		"IDs that don't rise":           change(func(p *api.Plan) { slices.Reverse(p.Parcels) }),
		"an ID twice":                   change(func(p *api.Plan) { p.Parcels[1].ID = 3 }),
		"an ID of 0":                    change(func(p *api.Plan) { p.Parcels[0].ID = 0 }),
		"an ID above MaxID":             change(func(p *api.Plan) { p.Parcels[1].ID = api.MaxID + 1 }),
		"an owner that is none":         change(func(p *api.Plan) { p.Parcels[0].Owner = strings.Repeat("x", api.MaxOwner+1) }),
		"another owner that is none":    change(func(p *api.Plan) { p.Parcels[1].Owner = "\n" }),
		"an Outer begun elsewhere":      change(func(p *api.Plan) { p.Outer = slices.Concat(p.Outer[1:], p.Outer[:1]) }),
		"a ring begun elsewhere":        change(func(p *api.Plan) { p.Parcels[0].Ring = of(2, 0, 2, 4, 0, 4, 0, 0) }),
		"another ring begun elsewhere":  change(func(p *api.Plan) { p.Parcels[1].Ring = of(4, 0, 4, 4, 2, 4, 2, 0) }),
		"a ring that runs to the right": change(func(p *api.Plan) { p.Parcels[0].Ring = of(0, 0, 0, 4, 2, 4, 2, 0) }),
		"a ring without corners":        change(func(p *api.Plan) { p.Parcels[0].Ring = nil }),
		"both rings without corners":    change(func(p *api.Plan) { p.Parcels[0].Ring, p.Parcels[1].Ring = nil, nil }),
		"rings that are each other":     change(func(p *api.Plan) { p.Parcels[1].Ring = of(0, 0, 0, 4, 2, 4, 2, 0) }),
		"a corner that is not Good":     change(func(p *api.Plan) { p.Outer[2] = at(limit+1, 0); p.Parcels[1].Ring[1] = at(limit+1, 0) }),
		"a corner that another lacks":   change(func(p *api.Plan) { p.Parcels[0].Ring = of(0, 0, 2, 0, 2, 2, 2, 4, 0, 4) }),
		"stretches in common, but no edge": change(func(p *api.Plan) {
			p.Parcels[0].Ring = of(0, 0, 2, 0, 2, 1, 2, 4, 0, 4)
			p.Parcels[1].Ring = of(2, 0, 4, 0, 4, 4, 2, 4, 2, 3)
		}),
		"a corner that the territory lacks": change(func(p *api.Plan) { p.Outer = of(0, 0, 4, 0, 4, 4, 2, 4, 0, 4) }),
		"a gap":                             change(func(p *api.Plan) { p.Parcels = p.Parcels[:1] }),
		"a gap between both":                change(func(p *api.Plan) { p.Parcels[1].Ring = of(2, 0, 4, 0, 4, 4, 2, 4, 3, 2) }),
		"land of both":                      change(func(p *api.Plan) { p.Parcels[1].Ring = of(1, 2, 2, 0, 4, 0, 4, 4, 2, 4) }),
		"land twice":                        lay(square().Outer, parcel(3, "", 0, 0, 4, 0, 4, 4, 0, 4), parcel(7, "", 0, 0, 4, 0, 4, 4, 0, 4)),
		"land beyond the territory":         lay(square().Outer, parcel(3, "", 0, 0, 4, 0, 4, 4, 0, 4), parcel(7, "", 4, 0, 8, 0, 8, 4, 4, 4)),
	}
}

func TestPlansThatAreNotSound(t *testing.T) {
	for name, p := range unsound() {
		if plan.Check(p) != api.ErrForm {
			t.Fatalf("%s is sound", name)
		}
		look := func(into, other int) { refuse(t, name, deed{p, into, other}, api.ErrForm) }
		if len(p.Parcels)+corners(p) < 100 {
			each(p, look)
		}
		for _, into := range []int{3, 4, 7} {
			for _, other := range []int{3, 4, 5, 7, 99} {
				look(into, other)
			}
		}
	}
}

// spoilt are plans that each one thing has made unsound: what lies at the parcel of that place.
func spoilt(p api.Plan, i int) []api.Plan {
	var list []api.Plan
	add := func(to func(p *api.Plan, parcel *api.Parcel)) {
		q := copied(p)
		to(&q, &q.Parcels[i])
		list = append(list, q)
	}
	add(func(p *api.Plan, parcel *api.Parcel) { parcel.Owner = "\x7f" })
	add(func(p *api.Plan, parcel *api.Parcel) { parcel.Ring = slices.Concat(parcel.Ring[1:], parcel.Ring[:1]) })
	add(func(p *api.Plan, parcel *api.Parcel) { slices.Reverse(parcel.Ring[1:]) })
	add(func(p *api.Plan, parcel *api.Parcel) { parcel.Ring[1].X += 4 * limit })
	add(func(p *api.Plan, parcel *api.Parcel) { p.Parcels = append(p.Parcels, *parcel) })
	add(func(p *api.Plan, parcel *api.Parcel) { p.Outer = slices.Concat(p.Outer[1:], p.Outer[:1]) })
	add(func(p *api.Plan, parcel *api.Parcel) { p.Outer = nil })
	return list
}

// Whatever a merge would tell, or be: if the plan is not sound, that is told, wherever its fault lies, even if it were gone behind the merge.
func TestUnsoundAndMore(t *testing.T) {
	var deeds []deed
	for _, c := range shapes() {
		deeds = append(deeds, c.deed)
	}
	for _, c := range refusals() {
		deeds = append(deeds, c.deed)
	}
	crowded := strips(t, 1, 62, 1, 63, 1)
	deeds = append(deeds, deed{crowded, 2, 3}, deed{crowded, 3, 2})
	for _, d := range deeds {
		for i := range d.plan.Parcels {
			for _, p := range spoilt(d.plan, i) {
				refuse(t, "spoilt", deed{p, d.into, d.other}, api.ErrForm)
				refuse(t, "spoilt, and both are one", deed{p, d.into, d.into}, api.ErrForm)
				refuse(t, "spoilt, and one is not there", deed{p, d.into, 99}, api.ErrForm)
			}
		}
	}
}

// R4 and R5

func spoilRing(r api.Ring) {
	for i := range r[:cap(r)] {
		r[:cap(r)][i] = at(-77, -77)
	}
}

func spoil(p api.Plan) {
	spoilRing(p.Outer)
	all := p.Parcels[:cap(p.Parcels)]
	for i := range all {
		spoilRing(all[i].Ring)
		all[i] = api.Parcel{ID: -77, Owner: "spoilt"}
	}
}

// roomy answers a list with spare room, and all that it has room for.
func roomy[T any](list []T, spare ...T) (roomy, whole []T) {
	whole = slices.Concat(list, spare)
	return whole[:len(list):len(whole)], whole
}

// same asks the same merge twice, of lists with spare room, spoils the first answer, and then looks whether the arguments and the second answer are what they were.
func same(t *testing.T, c named) {
	t.Helper()
	var whole []api.Ring
	keep := func(r api.Ring) api.Ring {
		list, all := roomy(r, of(7, 7, 8, 8, 9, 9)...)
		whole = append(whole, all)
		return list
	}
	p := lay(keep(c.deed.plan.Outer))
	for _, parcel := range c.deed.plan.Parcels {
		parcel.Ring = keep(parcel.Ring)
		p.Parcels = append(p.Parcels, parcel)
	}
	parcels, all := roomy(p.Parcels, parcel(1, "spare", 1, 1), parcel(99, "spare", 2, 2))
	p.Parcels = parcels
	was, wereAll := slices.Clone(whole), copied(lay(nil, all...))
	for i, r := range was {
		was[i] = slices.Clone(r)
	}
	one, _ := merge(deed{p, c.deed.into, c.deed.other})
	two, _ := merge(deed{p, c.deed.into, c.deed.other})
	spoil(one)
	if !slices.EqualFunc(whole, was, slices.Equal[api.Ring]) || !equal(lay(nil, all...), wereAll) {
		t.Errorf("%s: what was handed in is otherwise now", c.name)
	}
	for _, r := range whole {
		spoilRing(r)
	}
	spoil(p)
	if !equal(two, c.want) {
		t.Errorf("%s: what was answered became %v", c.name, two)
	}
}

func TestMemoryIsNotShared(t *testing.T) {
	for _, c := range merges() {
		same(t, c)
	}
	for _, c := range refusals() {
		same(t, named{name: c.name, deed: c.deed})
	}
	for name, p := range unsound() {
		same(t, named{name: name, deed: deed{p, 3, 7}})
	}
	for _, d := range []deed{{halves(), 3, 3}, {halves(), 3, 5}, {halves(), 5, 3}, {strips(t, 1, 62, 1, 63, 1), 2, 3}} {
		same(t, named{name: "refused", deed: d})
	}
}

// No two lists of one answer share memory, not even spare room.
func TestListsOfOneAnswer(t *testing.T) {
	for _, c := range merges() {
		got, _ := merge(c.deed)
		list := rings(got)
		for i, r := range list {
			for k := range r[:cap(r)] {
				r[:cap(r)][k] = at(i, i)
			}
		}
		for i, r := range list {
			if slices.ContainsFunc(r[:cap(r)], func(p api.Point) bool { return p != at(i, i) }) {
				t.Errorf("%s: ring %d shares its memory", c.name, i)
			}
		}
	}
}

// The same calls have the same answers, in whatever order they come.
func TestNothingIsKept(t *testing.T) {
	list := merges()
	for _, c := range refusals() {
		list = append(list, named{name: c.name, deed: c.deed})
	}
	slices.Reverse(list)
	for _, c := range slices.Concat(list, list) {
		if got, e := merge(c.deed); !equal(got, c.want) || (e == api.OK) != (len(c.want.Parcels) > 0) {
			t.Errorf("%s: %v, error %d, want %v", c.name, got, e, c.want)
		}
	}
}
