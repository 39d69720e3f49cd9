package bend_test

import (
	"fmt"
	"slices"
	"strings"
	"testing"

	"merestone/api"
	"merestone/bend"
	"merestone/cut"
	"merestone/plan"
	"merestone/ring"
	"merestone/wide"
)

// The calls as the chapter lists them: this does not compile if they are others.
var (
	_ func(api.Plan, api.Point, api.Point) (api.Plan, api.Errno) = bend.Move
	_ func(api.Plan, api.Point) (api.Plan, api.Errno)            = bend.Mark
	_ func(api.Plan, api.Point) (api.Plan, api.Errno)            = bend.Clear
)

func area(t *testing.T, p api.Plan, id int) string {
	t.Helper()
	parcel, e := plan.Find(p, id)
	if e != api.OK {
		t.Fatalf("Find of %d: error %d", id, e)
	}
	twice, _ := ring.Area(parcel.Ring)
	return wide.Text(twice)
}

// Behind the Move the corner (2, 2) is at (3, 2): its Clear there is the chapter's ErrSide, as at (2, 2) there is none any more.
func TestChapterExample(t *testing.T) {
	p, _ := plan.Begin(of(0, 0, 4, 0, 4, 4, 0, 4), 1, "Ann")
	split, e := cut.Split(p, 1, of(2, 0, 2, 4), 2)
	if e != api.OK {
		t.Fatalf("Split: error %d", e)
	}
	outer := of(0, 0, 2, 0, 4, 0, 4, 4, 2, 4, 0, 4)
	marked := lay(outer, parcel(1, "Ann", 2, 0, 4, 0, 4, 4, 2, 4, 2, 2), parcel(2, "Ann", 0, 0, 2, 0, 2, 2, 2, 4, 0, 4))
	moved := lay(outer, parcel(1, "Ann", 2, 0, 4, 0, 4, 4, 2, 4, 3, 2), parcel(2, "Ann", 0, 0, 2, 0, 3, 2, 2, 4, 0, 4))
	give(t, "Mark", marking(split, at(2, 2)), marked)
	give(t, "Move", moving(marked, at(2, 2), at(3, 2)), moved)
	if was, is := area(t, marked, 2), area(t, moved, 2); was != "16" || is != "20" {
		t.Errorf("parcel 2 has grown from %s to %s", was, is)
	}
	refuse(t, "out of the square", moving(marked, at(2, 2), at(5, 2)), api.ErrCross)
	refuse(t, "out of the square", moving(moved, at(3, 2), at(5, 2)), api.ErrCross)
	refuse(t, "where it was", clearing(moved, at(2, 2)), api.ErrNone)
	refuse(t, "where it is", clearing(moved, at(3, 2)), api.ErrSide)
	give(t, "Move back", moving(moved, at(3, 2), at(2, 2)), marked)
	give(t, "Clear", clearing(marked, at(2, 2)), split)
}

// What is done

// A named deed has a plan that is wanted.
type named struct {
	name string
	deed
	want api.Plan
}

// with answers a plan with other rings of some parcels.
func with(p api.Plan, list ...api.Parcel) api.Plan {
	p = copied(p)
	for _, parcel := range list {
		i := slices.IndexFunc(p.Parcels, func(other api.Parcel) bool { return other.ID == parcel.ID })
		p.Parcels[i] = parcel
	}
	return p
}

// bordered answers a plan with another Outer.
func bordered(p api.Plan, outer ...int) api.Plan {
	p = copied(p)
	p.Outer = of(outer...)
	return p
}

// moves are corners of two, three and more parcels, each ring corner by corner.
func moves() []named {
	first := with(marked(), parcel(3, "Ann", 0, 0, 2, 0, 1, 2, 2, 4, 0, 4), parcel(7, "Bob", 1, 2, 2, 0, 4, 0, 4, 4, 2, 4))
	return []named{
		{"into the second one", moving(marked(), at(2, 2), at(3, 2)), bent()},
		{"into the first one: it is the other's least corner then", moving(marked(), at(2, 2), at(1, 2)), first},
		{"a least corner that is none any more", moving(first, at(1, 2), at(3, 2)), bent()},
		{"a least corner that stays one", moving(first, at(1, 2), at(1, 3)),
			with(marked(), parcel(3, "Ann", 0, 0, 2, 0, 1, 3, 2, 4, 0, 4), parcel(7, "Bob", 1, 3, 2, 0, 4, 0, 4, 4, 2, 4))},
		{"a least corner by Y: it has the X of another", moving(first, at(1, 2), at(2, 1)),
			with(marked(), parcel(3, "Ann", 0, 0, 2, 0, 2, 1, 2, 4, 0, 4), parcel(7, "Bob", 2, 0, 4, 0, 4, 4, 2, 4, 2, 1))},
		{"along the border", moving(marked(), at(2, 2), at(2, 3)),
			with(marked(), parcel(3, "Ann", 0, 0, 2, 0, 2, 3, 2, 4, 0, 4), parcel(7, "Bob", 2, 0, 4, 0, 4, 4, 2, 4, 2, 3))},
		{"from one side of the border to the other", moving(bent(), at(3, 2), at(1, 1)),
			with(marked(), parcel(3, "Ann", 0, 0, 2, 0, 1, 1, 2, 4, 0, 4), parcel(7, "Bob", 1, 1, 2, 0, 4, 0, 4, 4, 2, 4))},
		{"of three", moving(three(), at(2, 2), at(2, 3)),
			with(three(), parcel(2, "Ann", 0, 0, 4, 0, 4, 2, 2, 3, 0, 2), parcel(4, "Bob", 0, 2, 2, 3, 2, 4, 0, 4), parcel(6, "Cid", 2, 3, 4, 2, 4, 4, 2, 4))},
		{"of three, into one", moving(three(), at(2, 2), at(1, 1)),
			with(three(), parcel(2, "Ann", 0, 0, 4, 0, 4, 2, 1, 1, 0, 2), parcel(4, "Bob", 0, 2, 1, 1, 2, 4, 0, 4), parcel(6, "Cid", 1, 1, 4, 2, 4, 4, 2, 4))},
		{"of four", moving(crossroads(), at(2, 2), at(1, 1)),
			with(crossroads(), parcel(2, "Ann", 0, 0, 2, 0, 1, 1, 0, 2), parcel(4, "Bob", 1, 1, 2, 0, 4, 0, 4, 2),
				parcel(6, "Cid", 0, 2, 1, 1, 2, 4, 0, 4), parcel(8, "Dee", 1, 1, 4, 2, 4, 4, 2, 4))},
		{"of four, a least corner that is none any more", moving(crossroads(), at(2, 2), at(3, 3)),
			with(crossroads(), parcel(2, "Ann", 0, 0, 2, 0, 3, 3, 0, 2), parcel(4, "Bob", 2, 0, 4, 0, 4, 2, 3, 3),
				parcel(6, "Cid", 0, 2, 3, 3, 2, 4, 0, 4), parcel(8, "Dee", 2, 4, 3, 3, 4, 2, 4, 4))},
		{"of six", moving(star(), at(2, 2), at(1, 2)),
			with(star(), parcel(1, "Ann", 0, 0, 2, 0, 1, 2), parcel(2, "Bob", 1, 2, 2, 0, 4, 0), parcel(3, "Cid", 1, 2, 4, 0, 4, 4),
				parcel(4, "Dee", 1, 2, 4, 4, 2, 4), parcel(5, "Eve", 0, 4, 1, 2, 2, 4), parcel(6, "Fay", 0, 0, 1, 2, 0, 4))},
		{"of a triangle", moving(tent(), at(4, 6), at(6, 7)),
			with(tent(), parcel(2, "Bob", 2, 4, 6, 4, 6, 7), parcel(3, "Cid", 0, 4, 2, 4, 6, 7, 6, 4, 8, 4, 8, 8, 0, 8))},
		{"of a triangle and two beside", moving(tent(), at(6, 4), at(6, 3)),
			with(tent(), parcel(1, "Ann", 0, 0, 8, 0, 8, 4, 6, 3, 2, 4, 0, 4), parcel(2, "Bob", 2, 4, 6, 3, 4, 6),
				parcel(3, "Cid", 0, 4, 2, 4, 4, 6, 6, 3, 8, 4, 8, 8, 0, 8))},
		{"of a zigzag", moving(zigzag(), at(4, 3), at(5, 2)),
			with(zigzag(), parcel(4, "Ann", 0, 0, 2, 0, 3, 1, 2, 2, 5, 2, 3, 4, 4, 6, 0, 6), parcel(9, "Bob", 2, 0, 6, 0, 6, 6, 4, 6, 3, 4, 5, 2, 2, 2, 3, 1))},
		{"far from where it was", moving(island(), at(3, 3), at(1, 1)),
			with(island(), parcel(2, "Ann", 0, 0, 8, 0, 8, 8, 6, 8, 5, 3, 1, 1, 2, 8, 0, 8), parcel(4, "Bob", 1, 1, 5, 3, 6, 8, 2, 8))},
	}
}

// marks are points of edges of all kinds, each ring corner by corner.
func marks() []named {
	return []named{
		{"an edge of two", marking(halves(), at(2, 2)), marked()},
		{"the first half of an edge of two", marking(marked(), at(2, 1)),
			with(marked(), parcel(3, "Ann", 0, 0, 2, 0, 2, 1, 2, 2, 2, 4, 0, 4), parcel(7, "Bob", 2, 0, 4, 0, 4, 4, 2, 4, 2, 2, 2, 1))},
		{"the last half of an edge of two", marking(marked(), at(2, 3)),
			with(marked(), parcel(3, "Ann", 0, 0, 2, 0, 2, 2, 2, 3, 2, 4, 0, 4), parcel(7, "Bob", 2, 0, 4, 0, 4, 4, 2, 4, 2, 3, 2, 2))},
		{"the territory's edge", marking(halves(), at(1, 0)),
			bordered(with(halves(), parcel(3, "Ann", 0, 0, 1, 0, 2, 0, 2, 4, 0, 4)), 0, 0, 1, 0, 2, 0, 4, 0, 4, 4, 2, 4, 0, 4)},
		{"the territory's edge, of the second one", marking(halves(), at(4, 3)),
			bordered(with(halves(), parcel(7, "Bob", 2, 0, 4, 0, 4, 3, 4, 4, 2, 4)), 0, 0, 2, 0, 4, 0, 4, 3, 4, 4, 2, 4, 0, 4)},
		{"the territory's last edge", marking(halves(), at(0, 1)),
			bordered(with(halves(), parcel(3, "Ann", 0, 0, 2, 0, 2, 4, 0, 4, 0, 1)), 0, 0, 2, 0, 4, 0, 4, 4, 2, 4, 0, 4, 0, 1)},
		{"the only one's edge", marking(square(), at(4, 1)),
			lay(of(0, 0, 4, 0, 4, 1, 4, 4, 0, 4), parcel(5, "Ann", 0, 0, 4, 0, 4, 1, 4, 4, 0, 4))},
		{"an edge that slants", marking(star(), at(1, 1)),
			with(star(), parcel(1, "Ann", 0, 0, 2, 0, 2, 2, 1, 1), parcel(6, "Fay", 0, 0, 1, 1, 2, 2, 0, 4))},
		{"a triangle's edge", marking(tent(), at(4, 4)),
			with(tent(), parcel(1, "Ann", 0, 0, 8, 0, 8, 4, 6, 4, 4, 4, 2, 4, 0, 4), parcel(2, "Bob", 2, 4, 4, 4, 6, 4, 4, 6))},
		{"a triangle's last edge", marking(tent(), at(3, 5)),
			with(tent(), parcel(2, "Bob", 2, 4, 6, 4, 4, 6, 3, 5), parcel(3, "Cid", 0, 4, 2, 4, 3, 5, 4, 6, 6, 4, 8, 4, 8, 8, 0, 8))},
		{"an edge in line with others", marking(tent(), at(1, 4)),
			with(tent(), parcel(1, "Ann", 0, 0, 8, 0, 8, 4, 6, 4, 2, 4, 1, 4, 0, 4), parcel(3, "Cid", 0, 4, 1, 4, 2, 4, 4, 6, 6, 4, 8, 4, 8, 8, 0, 8))},
	}
}

// clears are the marks back, and corners of Outer and of parcels at all places of their rings.
func clears() []named {
	var list []named
	for _, c := range marks() {
		list = append(list, named{c.name, clearing(c.want, c.at), c.plan})
	}
	crowded := lay(of(0, 0, 1, 0, 2, 0, 4, 0, 4, 4, 0, 4, 0, 2, 0, 1), parcel(5, "Ann", 0, 0, 1, 0, 2, 0, 4, 0, 4, 4, 0, 4, 0, 2, 0, 1))
	without := func(corner api.Point) api.Plan {
		return each(crowded, func(r api.Ring) api.Ring {
			return slices.DeleteFunc(slices.Clone(r), func(other api.Point) bool { return other == corner })
		})
	}
	for _, corner := range of(1, 0, 2, 0, 0, 2, 0, 1) {
		list = append(list, named{"a corner of some on one line", clearing(crowded, corner), without(corner)})
	}
	triangle := of(0, 0, 4, 0, 4, 4)
	return append(list, named{"one of four corners", clearing(lay(of(0, 0, 4, 0, 4, 4, 2, 2), parcel(1, "", 0, 0, 4, 0, 4, 4, 2, 2)), at(2, 2)),
		lay(triangle, api.Parcel{ID: 1, Ring: triangle})})
}

// back is the deed that undoes another one.
func (d deed) back(now api.Plan) deed {
	switch d.kind {
	case "Move":
		return moving(now, d.to, d.at)
	case "Mark":
		return clearing(now, d.at)
	}
	return marking(now, d.at)
}

// Each deed gives the plan that is wanted, and back gives the plan that was.
func TestDeeds(t *testing.T) {
	for _, c := range slices.Concat(moves(), marks(), clears()) {
		for _, v := range views() {
			d, want := c.seen(v), v.plan(c.want)
			what := c.name + ", " + v.name
			give(t, what, d, want)
			give(t, what+", back", d.back(want), d.plan)
			judge(t, d)
			judge(t, d.back(want))
		}
	}
}

// permuted answers the numbers 0 to 3 in one of their 24 orders.
func permuted(turn int) [4]int {
	left := []int{0, 1, 2, 3}
	var order [4]int
	for i := range order {
		n := turn % len(left)
		turn /= len(left)
		order[i] = left[n]
		left = slices.Delete(left, n, n+1)
	}
	return order
}

// IDs and owners stay as they are, whichever of them the parcels have.
func TestIDsAndOwners(t *testing.T) {
	owners := [4]string{"", " ~", "Ann", strings.Repeat("x", api.MaxOwner)}
	for _, ids := range [][4]int{{1, 2, 3, 4}, {2, 4, 6, 8}, {1, 77, 78, api.MaxID}, {api.MaxID - 3, api.MaxID - 2, api.MaxID - 1, api.MaxID}} {
		for turn := range 24 {
			p, order := crossroads(), permuted(turn)
			for i := range p.Parcels {
				p.Parcels[i].ID, p.Parcels[i].Owner = ids[order[i]], owners[(i+turn)%4]
			}
			slices.SortFunc(p.Parcels, func(a, b api.Parcel) int { return a.ID - b.ID })
			done(t, moving(p, at(2, 2), at(3, 3)))
			for _, corner := range of(2, 1, 1, 2, 2, 3, 3, 2, 1, 0, 4, 1, 3, 4, 0, 3) {
				more := done(t, marking(p, corner))
				done(t, clearing(more, corner))
				done(t, moving(more, at(2, 2), at(1, 1)))
			}
			for _, corner := range p.Outer {
				refuse(t, "a corner that is needed", clearing(p, corner), api.ErrSide)
			}
			refuse(t, "four in one point", clearing(p, at(2, 2)), api.ErrSide)
		}
	}
}

// All points of small plans

func grid(low, high api.Point) []api.Point {
	var list []api.Point
	for x := low.X; x <= high.X; x++ {
		for y := low.Y; y <= high.Y; y++ {
			list = append(list, at(x, y))
		}
	}
	return list
}

// eachDrawing goes through all drawings of three rows of three cells with up to so many parcels, and cells that are empty, if there may be some.
func eachDrawing(empty bool, parcels int, look func(rows ...string)) {
	cells := make([]byte, 9)
	var fill func(at, used int)
	fill = func(at, used int) {
		if at == len(cells) {
			look(string(cells[:3]), string(cells[3:6]), string(cells[6:]))
			return
		}
		if empty {
			cells[at] = ' '
			fill(at+1, used)
		}
		for c := range min(used+1, parcels) {
			cells[at] = byte('a' + c)
			fill(at+1, max(used, c+1))
		}
	}
	fill(0, 0)
}

// inner are the corners that may be moved, each once.
func inner(p api.Plan) []api.Point {
	var list []api.Point
	for _, corner := range slices.Concat(rings(p)...) {
		if !slices.Contains(p.Outer, corner) && !slices.Contains(list, corner) {
			list = append(list, corner)
		}
	}
	return list
}

// All points of the grid, and those between them, in all plans of a few cells, with all corners of the grid and with none that may go.
func TestAllSmallMarksAndClears(t *testing.T) {
	for _, c := range []struct {
		empty         bool
		parcels, part int
	}{{false, 3, 3}, {true, 2, 11}} {
		t.Run(fmt.Sprint(c), func(t *testing.T) {
			t.Parallel()
			told := map[string]int{}
			look := func(p api.Plan) {
				for _, corner := range grid(at(-1, -1), at(7, 7)) {
					for _, d := range []deed{marking(p, corner), clearing(p, corner)} {
						got, e := judge(t, d)
						told[fmt.Sprint(d.kind, e)]++
						if e == api.OK {
							give(t, "back", d.back(got), p)
						}
					}
				}
			}
			drawings := 0
			eachDrawing(c.empty, c.parcels, func(rows ...string) {
				p, ok := drawn(rows...)
				if drawings++; ok && drawings%c.part == 0 {
					look(doubled(p))
					look(doubled(thinned(p)))
				}
			})
			t.Log(told)
			for _, kind := range []string{"Mark0", "Mark6", "Mark7", "Clear0", "Clear5", "Clear7"} {
				if told[kind] < 300 {
					t.Errorf("told %v", told)
				}
			}
			if len(told) != 6 {
				t.Errorf("told %v", told)
			}
		})
	}
}

// All corners of all plans of a few cells to all points of the grid, and to those between them.
func TestAllSmallMoves(t *testing.T) {
	var list []api.Plan
	eachDrawing(false, 3, func(rows ...string) {
		if p, ok := drawn(rows...); ok {
			list = append(list, doubled(thinned(p)))
		}
	})
	eachDrawing(false, 2, func(rows ...string) {
		if p, ok := drawn(rows...); ok {
			list = append(list, doubled(p))
		}
	})
	for i, part := range slices.Collect(slices.Chunk(list, len(list)/8+1)) {
		t.Run(fmt.Sprint(i), func(t *testing.T) {
			t.Parallel()
			told := map[api.Errno]int{}
			for _, p := range part {
				for _, from := range inner(p) {
					for _, to := range grid(at(-1, -1), at(7, 7)) {
						_, e := judge(t, moving(p, from, to))
						told[e]++
					}
				}
			}
			t.Log(told)
			if told[api.OK] < 500 || told[api.ErrThere] < 500 || told[api.ErrCross] < 500 || len(told) != 3 {
				t.Errorf("told %v", told)
			}
		})
	}
}

// Many deeds

// drawing answers numbers that look like chance, the same at each run.
func drawing(seed uint64) func(below int) int {
	return func(below int) int {
		seed = seed*6364136223846793005 + 1442695040888963407
		return int(seed>>33) % below
	}
}

// middle is beside a short edge, if none of the grid's points is in the middle of it.
func middle(e api.Edge) api.Point {
	return at((e.A.X+e.B.X)/2, (e.A.Y+e.B.Y)/2)
}

// Deeds one after the other, of what came of the deeds ahead, so that borders slant in all ways; then all of them back, one by one, till the plan is as it was.
func TestManyDeeds(t *testing.T) {
	beginnings := []api.Plan{
		draw("aabb", "acdb", "aedd"), draw("abc", "adc", "eec"), draw("aab", "acb", "abb"), draw("abba", "acda", "aaaa"),
		tent(), star(), island(), zigzag(),
	}
	for seed, beginning := range beginnings {
		t.Run(fmt.Sprint(seed), func(t *testing.T) {
			t.Parallel()
			choose, told := drawing(uint64(seed)), map[string]int{}
			start := doubled(doubled(beginning))
			p, points := start, grid(at(-1, -1), at(33, 33))
			var deeds []deed
			for range 2000 {
				var d deed
				switch choose(6) {
				case 0:
					list := allEdges(p)
					d = marking(p, middle(list[choose(len(list))]))
				case 1:
					list := slices.Concat(rings(p)...)
					d = clearing(p, list[choose(len(list))])
				case 2:
					d = clearing(p, points[choose(len(points))])
				default:
					list := slices.Concat(inner(p), inner(p), p.Outer)
					from := list[choose(len(list))]
					d = moving(p, from, at(from.X+choose(15)-7, from.Y+choose(15)-7))
				}
				got, e := judge(t, d)
				told[fmt.Sprint(d.kind, e)]++
				if e == api.OK {
					deeds, p = append(deeds, d), got
				}
			}
			for _, d := range slices.Backward(deeds) {
				if p = done(t, d.back(p)); !equal(p, d.plan) {
					t.Fatalf("%v and back is %v", d, p)
				}
			}
			t.Log(told)
			if told["Move0"] < 30 || told["Mark0"] < 20 || told["Clear0"] < 20 || told["Move8"] < 50 || told["Clear7"] < 50 || told["Move10"] < 50 {
				t.Errorf("told %v", told)
			}
		})
	}
}
