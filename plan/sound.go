package plan

import (
	"maps"
	"slices"

	"merestone/api"
	"merestone/geo"
	"merestone/ring"
	"merestone/wide"
)

func isID(id int) bool {
	return 1 <= id && id <= api.MaxID
}

func isOwner(owner string) bool {
	return len(owner) <= api.MaxOwner && !slices.ContainsFunc([]byte(owner), func(b byte) bool {
		return b < ' ' || b > '~'
	})
}

// numbered answers whether there are as many parcels as may be, by rising ID, each with an owner.
func numbered(list []api.Parcel) bool {
	if len(list) < 1 || len(list) > api.MaxParcels {
		return false
	}
	last := 0
	for _, parcel := range list {
		if parcel.ID <= last || !isID(parcel.ID) || !isOwner(parcel.Owner) {
			return false
		}
		last = parcel.ID
	}
	return true
}

// bordered answers whether all rings are sound and begin at their least corners, and have no more corners together than there may be.
func bordered(list []api.Ring) bool {
	corners := 0
	for _, r := range list {
		corners += len(r)
		if begun, e := ring.Norm(r); e != api.OK || !slices.Equal(begun, r) {
			return false
		}
	}
	return corners <= api.MaxCorners
}

// fits answers whether the parcels, whose rings are sound, fill the territory without a gap or an overlap. Where all edges match, the rest of it follows; but the chapter names it, so that it is looked at, behind what is sooner told.
func fits(p api.Plan) bool {
	sides, single := sidesOf(p.Parcels)
	return single && matched(sides, p.Outer) && filled(p) && apart(ringsOf(p))
}

// sidesOf answers which parcel lies to the left of each edge; false, if one edge is two parcels'.
func sidesOf(list []api.Parcel) (sides map[api.Edge]int, single bool) {
	sides = map[api.Edge]int{}
	for _, parcel := range list {
		for _, e := range edgesOf(parcel.Ring) {
			if _, there := sides[e]; there {
				return nil, false
			}
			sides[e] = parcel.ID
		}
	}
	return sides, true
}

// matched answers whether the way around all parcels is outer: then each edge is outer's, or there the other way round, and outer's edges are all there. None of outer's may be there both ways round: the rest of it would have to be closed, which only all of it is.
func matched(sides map[api.Edge]int, outer api.Ring) bool {
	steps, single := around(sides)
	border := edgesOf(outer)
	for from, to := range steps {
		if !slices.Contains(border, api.Edge{A: from, B: to}) {
			return false
		}
	}
	return single && len(steps) == len(border)
}

// around answers the way around all parcels as steps from corner to corner: the edges that are not there the other way round. It answers false, if two of them lead on from one corner.
func around(sides map[api.Edge]int) (steps map[api.Point]api.Point, single bool) {
	steps = map[api.Point]api.Point{}
	for e := range sides {
		if _, shared := sides[turned(e)]; shared {
			continue
		}
		if _, there := steps[e.A]; there {
			return nil, false
		}
		steps[e.A] = e.B
	}
	return steps, true
}

// filled answers whether the areas of all parcels come to that of the territory.
func filled(p api.Plan) bool {
	var parts []api.Int
	for _, parcel := range p.Parcels {
		area, _ := ring.Area(parcel.Ring)
		parts = append(parts, area)
	}
	sum, _ := wide.Total(parts...)
	whole, _ := ring.Area(p.Outer)
	return sum == whole
}

// apart answers whether no ring has a corner on an edge but at its ends, and no two edges cross.
func apart(list []api.Ring) bool {
	stretches := stretchesOf(list)
	for i, one := range stretches {
		for _, other := range stretches[:i] {
			if !loose(one, other) {
				return false
			}
		}
	}
	return true
}

// loose answers whether two stretches that are not the same have nothing in common, or an end of both alone.
func loose(one, other api.Edge) bool {
	common, _ := geo.Meet(one.A, one.B, other.A, other.B)
	return common == 0 || common == 1 && joined(one, other)
}

func joined(one, other api.Edge) bool {
	return one.A == other.A || one.A == other.B || one.B == other.A || one.B == other.B
}

// stretchesOf answers the edges of all rings, those that are there both ways round, or twice, once.
func stretchesOf(list []api.Ring) []api.Edge {
	once := map[api.Edge]int{}
	for _, r := range list {
		for _, e := range edgesOf(r) {
			if _, there := once[turned(e)]; !there {
				once[e]++
			}
		}
	}
	return slices.Collect(maps.Keys(once))
}

// ringsOf answers the territory's ring, and all parcels'.
func ringsOf(p api.Plan) []api.Ring {
	list := []api.Ring{p.Outer}
	for _, parcel := range p.Parcels {
		list = append(list, parcel.Ring)
	}
	return list
}

func edgesOf(r api.Ring) []api.Edge {
	var list []api.Edge
	for i, a := range r {
		list = append(list, api.Edge{A: a, B: r[(i+1)%len(r)]})
	}
	return list
}

func turned(e api.Edge) api.Edge {
	return api.Edge{A: e.B, B: e.A}
}
