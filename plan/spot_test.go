package plan

import (
	"math"
	"math/big"
	"slices"
	"testing"

	"merestone/api"
	"merestone/ring"
)

func cover(t *testing.T, p api.Plan, x, y, parts int, within, on []int) {
	t.Helper()
	gotWithin, gotOn, e := Cover(p, x, y, parts)
	if e != api.OK || !slices.Equal(gotWithin, within) || !slices.Equal(gotOn, on) {
		t.Fatalf("Cover(%d, %d, %d) of %v: within %v, on %v, error %d, want %v, %v", x, y, parts, p, gotWithin, gotOn, e, within, on)
	}
}

func TestCover(t *testing.T) {
	p := crossroads()
	for _, c := range []struct {
		name        string
		x, y, parts int
		within, on  []int
	}{
		{"within", 1, 1, 1, []int{1}, nil},
		{"within, the last one", 3, 3, 1, []int{4}, nil},
		{"within, between the grid's points", 1, 1, 2, []int{1}, nil},
		{"within, just beside a border", 2047, 1, 1024, []int{1}, nil},
		{"on a border of two", 2, 1, 1, nil, []int{1, 2}},
		{"on a border of two, between the grid's points", 1, 4, 2, nil, []int{1, 3}},
		{"on a corner of four", 2, 2, 1, nil, []int{1, 2, 3, 4}},
		{"on a corner of four, in parts", 2048, 2048, 1024, nil, []int{1, 2, 3, 4}},
		{"just beside a corner of four, on a border", 2049, 2048, 1024, nil, []int{2, 4}},
		{"just beside a corner of four, within", 2049, 2047, 1024, []int{2}, nil},
		{"on the territory's border", 1, 0, 1, nil, []int{1}},
		{"on the territory's border, between the grid's points", 0, 1, 3, nil, []int{1}},
		{"on the territory's corner", 0, 0, 1, nil, []int{1}},
		{"on the territory's last corner", 4, 4, 1, nil, []int{4}},
		{"on the territory's border at a border of two", 2, 0, 1, nil, []int{1, 2}},
		{"outside", 5, 1, 1, nil, nil},
		{"outside, just beside the border", -1, 1024, 1024, nil, nil},
		{"outside, just beside a corner", 4097, 4096, 1024, nil, nil},
		{"outside, level with a border", 9, 2, 1, nil, nil},
		{"outside, level with the territory's border", -9, 0, 1, nil, nil},
		{"outside, at the limits", limit, -limit, 1, nil, nil},
	} {
		within, on, e := Cover(p, c.x, c.y, c.parts)
		if e != api.OK || !slices.Equal(within, c.within) || !slices.Equal(on, c.on) {
			t.Errorf("%s, (%d, %d) / %d: within %v, on %v, error %d", c.name, c.x, c.y, c.parts, within, on, e)
		}
	}
}

// What a corner of three, five and eight has: the IDs come by rising ID, whatever the parcels' places.
func TestCoverAtCorners(t *testing.T) {
	cover(t, draw("aab", "acb", "abb"), 1, 1, 1, nil, []int{1, 2, 3})
	cover(t, draw("aab", "acb", "abb"), 2, 3, 2, nil, []int{1, 3})
	cover(t, fan(), 3, 2, 1, nil, []int{1, 2, 3, 4})
	cover(t, fan(), 6, 6, 1, nil, []int{2, 3, 5})
	p := lay(of(-2, -2, 0, -2, 2, -2, 2, 0, 2, 2, 0, 2, -2, 2, -2, 0),
		of(-2, 0, 0, 0, -2, 2), of(0, 0, 2, 0, 2, 2), of(-2, -2, 0, 0, -2, 0), of(-2, -2, 0, -2, 0, 0),
		of(0, 0, 2, 2, 0, 2), of(0, -2, 2, -2, 0, 0), of(-2, 2, 0, 0, 0, 2), of(0, 0, 2, -2, 2, 0))
	for i := range p.Parcels {
		p.Parcels[i].ID = 10 * (i + 1)
	}
	cover(t, p, 0, 0, 7, nil, []int{10, 20, 30, 40, 50, 60, 70, 80})
	cover(t, p, 1, 1, 2, nil, []int{20, 50})
	cover(t, p, -1, -2, 3, []int{40}, nil)
}

func TestCoverRefused(t *testing.T) {
	p := halves()
	parts := map[int]api.Errno{1: api.OK, 2: api.OK, 3: api.OK, 1023: api.OK, 1024: api.OK, 0: api.ErrArg, -1: api.ErrArg, 1025: api.ErrArg, -1024: api.ErrArg, math.MaxInt: api.ErrArg, math.MinInt: api.ErrArg}
	for n, e := range parts {
		reach := limit * min(max(n, 1), 1024)
		numbers := map[int]api.Errno{0: api.OK, 1: api.OK, reach: api.OK, -reach: api.OK, reach - 1: api.OK, 1 - reach: api.OK, reach + 1: api.ErrRange, -reach - 1: api.ErrRange, math.MaxInt: api.ErrRange, math.MinInt: api.ErrRange}
		for x, e2 := range numbers {
			for y, e3 := range numbers {
				want := first(e, e2, e3)
				within, on, got := Cover(p, x, y, n)
				if got != want || got != api.OK && (len(within) > 0 || len(on) > 0) {
					t.Errorf("Cover(%d, %d, %d): within %v, on %v, error %d, want %d", x, y, n, within, on, got, want)
				}
			}
		}
	}
}

// eachDrawing goes through all drawings of so many columns and rows that have a plan.
func eachDrawing(letters string, along, up int, look func(rows []string, p api.Plan)) {
	cells := make([]byte, along*up)
	var fill func(int)
	fill = func(i int) {
		if i < len(cells) {
			for _, c := range []byte(letters) {
				cells[i] = c
				fill(i + 1)
			}
			return
		}
		var rows []string
		for row := range slices.Chunk(cells, along) {
			rows = append(rows, string(row))
		}
		if p, ok := drawn(rows...); ok {
			look(rows, p)
		}
	}
	fill(0)
}

// All drawings of a few cells are sound plans, in which each half step is covered as the cells around it tell.
func TestAllDrawings(t *testing.T) {
	plans := 0
	look := func(rows []string, p api.Plan) {
		plans++
		if e := Check(p); e != api.OK {
			t.Fatalf("Check of %q: error %d", rows, e)
		}
		eachPoint(-1, 7, func(at api.Point) {
			ids := cellsAround(rows, at)
			switch {
			case len(ids) == 1 && ids[0] == 0:
				cover(t, p, at.X, at.Y, 2, nil, nil)
			case len(ids) == 1:
				cover(t, p, at.X, at.Y, 2, ids, nil)
			default:
				ids = slices.DeleteFunc(ids, func(id int) bool { return id == 0 })
				cover(t, p, at.X, at.Y, 2, nil, ids)
			}
		})
	}
	eachDrawing("abc", 3, 2, look)
	eachDrawing("ab ", 2, 3, look)
	eachDrawing("ab", 3, 3, look)
	if plans < 300 {
		t.Errorf("%d plans", plans)
	}
}

// cellsAround answers the parcels (0: none) of the cells that have the point, which is told in half steps, once each, by rising ID.
func cellsAround(rows []string, at api.Point) []int {
	ids := map[int]bool{}
	for x := -1; x <= 4; x++ {
		for y := -1; y <= 4; y++ {
			if 2*x <= at.X && at.X <= 2*x+2 && 2*y <= at.Y && at.Y <= 2*y+2 {
				ids[cell(rows, x, y)] = true
			}
		}
	}
	var list []int
	for id := range 4 {
		if ids[id] {
			list = append(list, id)
		}
	}
	return list
}

func cell(rows []string, x, y int) int {
	if y < 0 || y >= len(rows) || x < 0 || x >= len(rows[0]) || rows[len(rows)-1-y][x] == ' ' {
		return 0
	}
	return int(rows[len(rows)-1-y][x]-'a') + 1
}

// expectedCover draws small rings out, parts times, and asks layer 3.
func expectedCover(t *testing.T, p api.Plan, x, y, parts int) (within, on []int) {
	t.Helper()
	for _, parcel := range p.Parcels {
		var r api.Ring
		for _, c := range parcel.Ring {
			r = append(r, at(c.X*parts, c.Y*parts))
		}
		side, e := ring.Side(r, at(x, y))
		if e != api.OK {
			t.Fatalf("Side(%v): error %d", r, e)
		}
		if side == 1 {
			within = append(within, parcel.ID)
		}
		if side == 0 {
			on = append(on, parcel.ID)
		}
	}
	return within, on
}

// Each point of a few parts of a step around small plans, their borders aslant too. What is within the territory is within one parcel, or on the borders of two at least.
func TestCoverOfAllPoints(t *testing.T) {
	for _, plan := range []api.Plan{crossroads(), fan(), draw("aab", "acb", "abb"), draw("aaaa", "abba", "abba")} {
		for _, to := range views() {
			p := moved(plan, to)
			whole := lay(p.Outer, p.Outer)
			for _, parts := range []int{1, 3} {
				low, high := reach(p)
				for x := (low.X - 1) * parts; x <= (high.X+1)*parts; x++ {
					for y := (low.Y - 1) * parts; y <= (high.Y+1)*parts; y++ {
						within, on := expectedCover(t, p, x, y, parts)
						cover(t, p, x, y, parts, within, on)
						inside, border := expectedCover(t, whole, x, y, parts)
						if full := len(within) == 1 && len(on) == 0 || len(within) == 0 && len(on) >= 2; len(inside) == 1 && !full || len(border) == 1 && len(on) == 0 || len(inside)+len(border) == 0 && len(on)+len(within) > 0 {
							t.Fatalf("(%d, %d) / %d of %v: within %v, on %v, of the territory %v, %v", x, y, parts, p, within, on, inside, border)
						}
					}
				}
			}
		}
	}
}

func reach(p api.Plan) (low, high api.Point) {
	low, high = p.Outer[0], p.Outer[0]
	for _, c := range p.Outer {
		low = at(min(low.X, c.X), min(low.Y, c.Y))
		high = at(max(high.X, c.X), max(high.Y, c.Y))
	}
	return low, high
}

// Around each corner, each middle and each third of an edge, in many parts.
func TestCoverBesideBorders(t *testing.T) {
	for _, c := range soundPlans() {
		if len(slices.Concat(ringsOf(c.plan)...)) > 100 || !isSmall(c.plan) {
			continue
		}
		for _, parts := range []int{6, 600, 1020, 1024} {
			for _, r := range ringsOf(c.plan)[1:] {
				for _, e := range sides(r) {
					for _, part := range []int{0, 2, 3} {
						x := parts*e[0].X + parts*(e[1].X-e[0].X)*part/6
						y := parts*e[0].Y + parts*(e[1].Y-e[0].Y)*part/6
						eachPoint(-1, 1, func(off api.Point) {
							within, on := expectedCover(t, c.plan, x+off.X, y+off.Y, parts)
							cover(t, c.plan, x+off.X, y+off.Y, parts, within, on)
						})
					}
				}
			}
		}
	}
}

// bigSide counts, in big numbers, the edges across a way from the spot to a point so far off, one step up, that no other point is on that way.
func bigSide(r api.Ring, x, y, parts int) int {
	spot := [2]*big.Int{big.NewInt(int64(x)), big.NewInt(int64(y))}
	far := [2]*big.Int{new(big.Int).Add(spot[0], new(big.Int).Lsh(big.NewInt(1), 100)), big.NewInt(int64(y) + 1)}
	count := 0
	for _, e := range sides(r) {
		var a, b [2]*big.Int
		for i, c := range []int{e[0].X, e[0].Y} {
			a[i] = new(big.Int).Mul(big.NewInt(int64(c)), big.NewInt(int64(parts)))
		}
		for i, c := range []int{e[1].X, e[1].Y} {
			b[i] = new(big.Int).Mul(big.NewInt(int64(c)), big.NewInt(int64(parts)))
		}
		if bigTurn(a, b, spot) == 0 && inBox(a, b, spot) {
			return 0
		}
		if bigTurn(a, b, spot)*bigTurn(a, b, far) < 0 && bigTurn(spot, far, a)*bigTurn(spot, far, b) < 0 {
			count++
		}
	}
	return 2*(count%2) - 1
}

func bigTurn(a, b, c [2]*big.Int) int {
	off := func(p, q *big.Int) *big.Int { return new(big.Int).Sub(q, p) }
	left := new(big.Int).Mul(off(a[0], b[0]), off(a[1], c[1]))
	right := new(big.Int).Mul(off(a[1], b[1]), off(a[0], c[0]))
	return left.Cmp(right)
}

func inBox(a, b, c [2]*big.Int) bool {
	return a[0].Cmp(c[0])*b[0].Cmp(c[0]) <= 0 && a[1].Cmp(c[1])*b[1].Cmp(c[1]) <= 0
}

func bigCover(t *testing.T, p api.Plan, x, y, parts int) {
	t.Helper()
	var within, on []int
	for _, parcel := range p.Parcels {
		switch bigSide(parcel.Ring, x, y, parts) {
		case 1:
			within = append(within, parcel.ID)
		case 0:
			on = append(on, parcel.ID)
		}
	}
	cover(t, p, x, y, parts, within, on)
}

// diagonal is all that is Good, cut in two by a border that passes the grid's points by less than a step.
func diagonal() api.Plan {
	return lay(of(-limit, -limit, limit, -limit, limit, limit-1, limit, limit, -limit, limit),
		of(-limit, -limit, limit, -limit, limit, limit-1), of(-limit, -limit, limit, limit-1, limit, limit, -limit, limit))
}

// At x = 0 the border is half a step below the axis.
func TestCoverInNarrowPlaces(t *testing.T) {
	p := diagonal()
	cover(t, p, 0, 0, 1, []int{2}, nil)
	cover(t, p, 0, -1, 1, []int{1}, nil)
	cover(t, p, 1, 0, 1, []int{1}, nil)
	cover(t, p, 0, -1, 2, nil, []int{1, 2})
	cover(t, p, 0, -512, 1024, nil, []int{1, 2})
	cover(t, p, 0, -511, 1024, []int{2}, nil)
	cover(t, p, 0, -513, 1024, []int{1}, nil)
	cover(t, p, 1, -512, 1024, []int{1}, nil)
	cover(t, p, -1, -512, 1024, []int{2}, nil)
	cover(t, p, 1, -511, 1024, []int{2}, nil)
	cover(t, p, -limit*1024, -limit*1024, 1024, nil, []int{1, 2})
	cover(t, p, 1-limit*1024, 1-limit*1024, 1024, []int{2}, nil)
	cover(t, p, 2-limit*1024, 1-limit*1024, 1024, []int{1}, nil)
	cover(t, p, limit*1024, limit*1024-1024, 1024, nil, []int{1, 2})
	cover(t, p, limit*1024, limit*1024-1023, 1024, nil, []int{2})
	cover(t, p, limit*1024, limit*1024-1025, 1024, nil, []int{1})
	cover(t, p, limit*1024-1, limit*1024-1025, 1024, []int{1}, nil)
	cover(t, p, limit*1024-1, limit*1024-1024, 1024, []int{2}, nil)
}

// The ends of x and y, in all parts, and points along and beside the borders of all that is Good.
func TestCoverAtTheLimits(t *testing.T) {
	all := func(p api.Point) api.Point { return at((p.X-2)*(limit/2), (p.Y-2)*(limit/2)) }
	for _, p := range []api.Plan{diagonal(), moved(diagonal(), func(p api.Point) api.Point { return at(-p.Y, p.X) }), moved(crossroads(), all), moved(halves(), all)} {
		for _, parts := range []int{1, 2, 3, 7, 512, 1023, 1024} {
			reach := limit * parts
			for _, x := range []int{-reach, 1 - reach, -reach / 2, -1, 0, 1, parts, reach / 3, reach - 1, reach} {
				for _, y := range []int{-reach, 1 - reach, -parts, -1, 0, 1, reach / 2, reach - 1, reach} {
					bigCover(t, p, x, y, parts)
				}
				eachPoint(-2, 2, func(off api.Point) {
					if x+off.X >= -reach && x+off.X <= reach && x+off.Y >= -reach && x+off.Y <= reach {
						bigCover(t, p, x+off.X, x+off.Y, parts)
					}
				})
			}
		}
	}
}
