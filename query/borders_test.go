package query_test

import (
	"fmt"
	"math"
	"slices"
	"testing"

	"merestone/api"
)

// Pairs

func TestPairs(t *testing.T) {
	for _, c := range []struct {
		name string
		plan api.Plan
		want []api.Pair
	}{
		{"one alone", square(), nil},
		{"one edge in common", halves(), pairs(1, 2)},
		{"one edge in common, that slants", slant(), pairs(1, 2)},
		{"several edges in common, one after the other", zigzag(), pairs(4, 9)},
		{"several edges in common, around a first corner", creek(), pairs(1, 2)},
		{"several edges in common, in three parts", gate(), pairs(1, 2, 1, 3, 1, 4, 2, 3, 2, 4)},
		{"the outer two of three apart", bands(), pairs(3, 7, 7, 8)},
		{"all of three", three(), pairs(2, 4, 2, 6, 4, 6)},
		{"a corner alone in common", crossroads(), pairs(2, 4, 2, 6, 4, 8, 6, 8)},
		{"a corner alone in common, of six", star(), pairs(1, 2, 1, 6, 2, 3, 3, 4, 4, 5, 5, 6)},
		{"a corner and an edge in common", corner(), pairs(1, 2, 1, 3, 1, 4, 2, 3, 2, 4)},
		{"three edges in common", island(), pairs(2, 4)},
		{"two edges in common", vee(), pairs(1, 2)},
		{"IDs that fall around the middle", numbered(crossroads(), 100, 9, 10, api.MaxID), pairs(9, 100, 9, api.MaxID, 10, 100, 10, api.MaxID)},
		{"other IDs of six", numbered(star(), 77, 1, 78, api.MaxID, 2, 11), pairs(1, 77, 1, 78, 2, 11, 2, api.MaxID, 11, 77, 78, api.MaxID)},
		{"other IDs of two", numbered(halves(), api.MaxID, api.MaxID-1), pairs(api.MaxID-1, api.MaxID)},
	} {
		for _, v := range views() {
			what := c.name + ", " + v.name
			x := made(t, what, v.plan(c.plan))
			for range 3 {
				givePairs(t, what, x, c.want)
			}
		}
	}
}

// Each pair is there once, A below B, by A and then by B, as many as there are.
func TestPairsOfManyParcels(t *testing.T) {
	s := block(at(-limit, -limit), size, 8, 8)
	x := made(t, "64 parcels", mustPlan(t, s))
	got, e := x.Pairs()
	if len(got) != 112 || e != api.OK {
		t.Fatalf("%d pairs, %d", len(got), e)
	}
	for i, pair := range got {
		if pair.A >= pair.B {
			t.Errorf("%v: A is not below B", pair)
		}
		if i > 0 && (got[i-1].A > pair.A || got[i-1].A == pair.A && got[i-1].B >= pair.B) {
			t.Errorf("%v ahead of %v", got[i-1], pair)
		}
		if pair.B-pair.A != 8 && (pair.B-pair.A != 1 || pair.A%8 == 0) {
			t.Errorf("%v have no edge in common", pair)
		}
	}
	givePairs(t, "64 parcels", x, s.pairs())
}

// Whichever of four has which ID.
func TestOrderOfPairs(t *testing.T) {
	eachOrder(ids(3, 4, 20, 100), func(order []int) {
		x := made(t, "crossroads", numbered(crossroads(), order...))
		var want []api.Pair
		for a := range 101 {
			for b := a + 1; b <= 100; b++ {
				one, other := slices.Index(order, a), slices.Index(order, b)
				if one >= 0 && other >= 0 && one+other != 3 {
					want = append(want, api.Pair{A: a, B: b})
				}
			}
		}
		if len(want) != 4 {
			t.Fatalf("%v: %v are reckoned", order, want)
		}
		givePairs(t, fmt.Sprint(order), x, want)
	})
}

// Border

func TestBorder(t *testing.T) {
	for _, c := range []struct {
		name string
		plan api.Plan
		a, b int
		want []api.Edge
	}{
		{"one edge, the last one", halves(), 1, 2, edges(2, 4, 2, 0)},
		{"one edge, amid the ring", halves(), 2, 1, edges(2, 0, 2, 4)},
		{"one edge that slants, the last one", slant(), 1, 2, edges(8, 8, 0, 0)},
		{"one edge that slants, the first one", slant(), 2, 1, edges(0, 0, 8, 8)},
		{"one edge of two, to the left", bands(), 7, 3, edges(2, 4, 2, 0)},
		{"one edge of two, to the right", bands(), 7, 8, edges(4, 0, 4, 4)},
		{"two edges of one with two others, the first", three(), 2, 4, edges(2, 2, 0, 2)},
		{"two edges of one with two others, the second", three(), 2, 6, edges(4, 2, 2, 2)},
		{"the first edge", three(), 6, 2, edges(2, 2, 4, 2)},
		{"five edges, amid the ring", zigzag(), 4, 9, edges(2, 0, 3, 1, 3, 1, 2, 2, 2, 2, 4, 3, 4, 3, 3, 4, 3, 4, 4, 6)},
		{"five edges, the last ones", zigzag(), 9, 4, edges(4, 6, 3, 4, 3, 4, 4, 3, 4, 3, 2, 2, 2, 2, 3, 1, 3, 1, 2, 0)},
		{"five edges along one way", creek(), 1, 2, edges(4, 0, 2, 2, 2, 2, 6, 3, 6, 3, 4, 4, 4, 4, 2, 6, 2, 6, 4, 8)},
		{"five edges, the first and the last ones", creek(), 2, 1, edges(2, 2, 4, 0, 4, 8, 2, 6, 2, 6, 4, 4, 4, 4, 6, 3, 6, 3, 2, 2)},
		{"three parts", gate(), 1, 2, edges(4, 0, 4, 1, 4, 3, 4, 5, 4, 7, 4, 8)},
		{"three parts, the other way", gate(), 2, 1, edges(4, 8, 4, 7, 4, 5, 4, 3, 4, 1, 4, 0)},
		{"two edges, the ends of a ring", gate(), 3, 1, edges(3, 2, 4, 1, 4, 3, 3, 2)},
		{"two edges amid a ring", gate(), 3, 2, edges(4, 1, 5, 2, 5, 2, 4, 3)},
		{"the first of two parts", gate(), 1, 3, edges(4, 1, 3, 2, 3, 2, 4, 3)},
		{"the second of two parts", gate(), 1, 4, edges(4, 5, 3, 6, 3, 6, 4, 7)},
		{"an edge beside a corner in common", corner(), 1, 2, edges(4, 6, 4, 8)},
		{"an edge beside a corner in common, the other way", corner(), 2, 1, edges(4, 8, 4, 6)},
		{"the edges around a bay", island(), 2, 4, edges(6, 8, 5, 3, 5, 3, 3, 3, 3, 3, 2, 8)},
		{"the edges of what is in it", island(), 4, 2, edges(2, 8, 3, 3, 3, 3, 5, 3, 5, 3, 6, 8)},
		{"a corner alone in common", crossroads(), 2, 8, nil},
		{"a corner alone in common, the other way", crossroads(), 8, 2, nil},
		{"a corner alone in common, of six", star(), 1, 3, nil},
		{"a corner alone in common, on the other side of six", star(), 1, 4, nil},
		{"nothing in common", bands(), 3, 8, nil},
		{"nothing in common, the other way", bands(), 8, 3, nil},
		{"nothing in common, within", gate(), 3, 4, nil},
		{"other IDs", numbered(crossroads(), 100, 9, 10, api.MaxID), 100, 9, edges(2, 0, 2, 2)},
		{"other IDs, the other way", numbered(crossroads(), 100, 9, 10, api.MaxID), 9, 100, edges(2, 2, 2, 0)},
	} {
		giveBorder(t, c.name, made(t, c.name, c.plan), c.a, c.b, c.want)
		for _, v := range views() {
			what := c.name + ", " + v.name
			p := v.plan(c.plan)
			border := expectedBorder(find(t, p, c.a), find(t, p, c.b))
			giveBorder(t, what, made(t, what, p), c.a, c.b, border)
			if len(border) != len(c.want) {
				t.Errorf("%s: %v is reckoned, %v written out", what, border, c.want)
			}
		}
	}
}

func find(t *testing.T, p api.Plan, id int) api.Parcel {
	t.Helper()
	i := slices.IndexFunc(p.Parcels, func(parcel api.Parcel) bool { return parcel.ID == id })
	if i < 0 {
		t.Fatalf("no parcel %d", id)
	}
	return p.Parcels[i]
}

// Both ways round it is the same border: each edge turned, of the same length.
func TestBorderBothWaysRound(t *testing.T) {
	for name, p := range all() {
		x := made(t, name, p)
		for _, one := range p.Parcels {
			for _, other := range p.Parcels {
				if one.ID == other.ID {
					continue
				}
				there, lengths, _ := x.Border(one.ID, other.ID)
				back, lengthsBack, _ := x.Border(other.ID, one.ID)
				for i, e := range there {
					k := slices.Index(back, api.Edge{A: e.B, B: e.A})
					if k < 0 || len(there) != len(back) || lengths[i] != lengthsBack[k] {
						t.Errorf("%s: Border(%d, %d): %v, and back %v", name, one.ID, other.ID, there, back)
					}
				}
			}
		}
	}
}

// The edges come from the ring's first corner on, wherever on the border that is: not from where the border begins.
func TestBorderFromTheFirstCornerOn(t *testing.T) {
	for name, p := range all() {
		for _, v := range views() {
			seen := v.plan(p)
			x := made(t, name, seen)
			for _, one := range seen.Parcels {
				for _, other := range seen.Parcels {
					list, _, _ := x.Border(one.ID, other.ID)
					last := -1
					for _, e := range list {
						i := slices.Index(one.Ring, e.A)
						if i <= last || one.Ring[(i+1)%len(one.Ring)] != e.B {
							t.Errorf("%s, %s: Border(%d, %d): %v of %v", name, v.name, one.ID, other.ID, list, one.Ring)
						}
						last = i
					}
				}
			}
		}
	}
}

// A border of as many edges as there may be.
func TestLongBorders(t *testing.T) {
	for _, borders := range [][]int{{1, 63, 63, 1}, {1, 125, 1}, {1, 62, 61, 62, 61, 62, 61, 62, 61, 1}, {63, 63}} {
		p := strips(borders...)
		x := made(t, fmt.Sprint(borders), p)
		var want []api.Pair
		for i, count := range borders[1 : len(borders)-1] {
			want = append(want, api.Pair{A: i + 1, B: i + 2})
			for _, pair := range pairs(i+1, i+2, i+2, i+1) {
				border := expectedBorder(p.Parcels[pair.A-1], p.Parcels[pair.B-1])
				if len(border) != count {
					t.Fatalf("%v: %d edges are reckoned", borders, len(border))
				}
				giveBorder(t, fmt.Sprint(borders), x, pair.A, pair.B, border)
			}
		}
		givePairs(t, fmt.Sprint(borders), x, want)
	}
}

// Lengths

func TestLengths(t *testing.T) {
	low, high := -limit, limit
	upright := func(x, height int) api.Plan {
		return lay(of(x-9, 0, x, 0, x+9, 0, x+9, height, x, height, x-9, height),
			parcel(1, x-9, 0, x, 0, x, height, x-9, height), parcel(2, x, 0, x+9, 0, x+9, height, x, height))
	}
	level := func(width int) api.Plan {
		return lay(of(-width, -9, 0, -9, 0, 0, 0, 9, -width, 9, -width, 0),
			parcel(1, -width, -9, 0, -9, 0, 0, -width, 0), parcel(2, -width, 0, 0, 0, 0, 9, -width, 9))
	}
	for _, c := range []struct {
		name string
		plan api.Plan
		want []api.Int
	}{
		{"1", upright(0, 1), []api.Int{{Lo: 1}}},
		{"2", upright(0, 2), []api.Int{{Lo: 4}}},
		{"4", halves(), []api.Int{{Lo: 16}}},
		{"up and to the right", slant(), []api.Int{{Lo: 128}}},
		{"some", zigzag(), []api.Int{{Lo: 2}, {Lo: 2}, {Lo: 5}, {Lo: 2}, {Lo: 5}}},
		{"below 2^32", upright(7, 65535), []api.Int{{Lo: 4294836225}}},
		{"2^32", upright(7, 65536), []api.Int{{Lo: 1 << 32}}},
		{"2^32, level", level(65536), []api.Int{{Lo: 1 << 32}}},
		{"above 2^32", upright(7, 65537), []api.Int{{Lo: 4295098369}}},
		{"2^60", upright(-size, limit), []api.Int{{Lo: 1 << 60}}},
		{"2^60, level", level(limit), []api.Int{{Lo: 1 << 60}}},
		{"2^62", lay(of(low, low, 0, low, high, low, high, high, 0, high, low, high),
			parcel(1, low, low, 0, low, 0, high, low, high), parcel(2, 0, low, high, low, high, high, 0, high)), []api.Int{{Lo: 1 << 62}}},
		{"below 2^63", lay(of(low, low, high, low, high, high-1, low, high),
			parcel(1, low, low, high, low, high, high-1), parcel(2, low, low, high, high-1, low, high)), []api.Int{{Lo: 1<<63 - 1<<32 + 1}}},
		{"2^63", lay(of(low, low, high, low, high, high, low, high),
			parcel(1, low, low, high, low, high, high), parcel(2, low, low, high, high, low, high)), []api.Int{{Lo: 1 << 63}}},
		{"2^63, to the other side", lay(of(low, low, high, low, high, high, low, high),
			parcel(1, low, low, high, low, low, high), parcel(2, low, high, high, low, high, high)), []api.Int{{Lo: 1 << 63}}},
	} {
		x := made(t, c.name, c.plan)
		one, other := c.plan.Parcels[0].ID, c.plan.Parcels[1].ID
		for _, pair := range pairs(one, other, other, one) {
			list, lengths, e := x.Border(pair.A, pair.B)
			if pair.A == other {
				slices.Reverse(lengths)
			}
			if !slices.Equal(lengths, c.want) || len(list) != len(c.want) || e != api.OK {
				t.Errorf("%s: Border(%d, %d): %v, %v, %d, not %v", c.name, pair.A, pair.B, list, lengths, e, c.want)
			}
		}
	}
}

// Errors

// ErrNone is named first: a parcel that is not there, and itself, is not there.
func TestBorderRefused(t *testing.T) {
	for name, p := range all() {
		x := made(t, name, p)
		there := map[int]int{}
		for _, parcel := range p.Parcels {
			there[parcel.ID]++
			refuseBorder(t, name, x, parcel.ID, parcel.ID, api.ErrArg)
		}
		for _, id := range []int{0, -1, 1, 2, 3, 12, 99, api.MaxID - 1, api.MaxID, api.MaxID + 1, math.MinInt, math.MaxInt, -5, 1 << 32} {
			if there[id] > 0 {
				continue
			}
			refuseBorder(t, name, x, id, id, api.ErrNone)
			for _, other := range []int{0, -1, api.MaxID + 1, math.MinInt, math.MaxInt} {
				refuseBorder(t, name, x, id, other, api.ErrNone)
				refuseBorder(t, name, x, other, id, api.ErrNone)
			}
			for _, parcel := range p.Parcels {
				refuseBorder(t, name, x, id, parcel.ID, api.ErrNone)
				refuseBorder(t, name, x, parcel.ID, id, api.ErrNone)
			}
		}
	}
}

// The outside of the territory is no parcel, though parcels have edges in common with it.
func TestBorderWithTheOutside(t *testing.T) {
	x := made(t, "halves", halves())
	for id := range 3 {
		refuseBorder(t, "halves", x, id, 0, api.ErrNone)
		refuseBorder(t, "halves", x, 0, id, api.ErrNone)
	}
}
