package record

import (
	"slices"

	"merestone/api"
	"merestone/frame"
)

// told answers the plan that items tell, which stand by rising keys. They may be any: what has no place there is read as something else or left out, and is none of that plan's own items then.
func told(sorted []api.Item) api.Plan {
	var p api.Plan
	for _, one := range sorted {
		mark, _ := frame.Num(one.Key, 0, markSize)
		switch mark {
		case outerMark:
			p.Outer = append(p.Outer, pointsOf(one.Value)...)
		case parcelMark:
			p.Parcels = withPart(p.Parcels, one)
		}
	}
	return p
}

// withPart answers the parcels and what one item tells more: of the next of them, or of the ring of the last.
func withPart(list []api.Parcel, one api.Item) []api.Parcel {
	id, _ := frame.Num(one.Key, markSize, idSize)
	part, _ := frame.Num(one.Key, markSize+idSize, partSize)
	if part == 0 {
		return append(list, api.Parcel{ID: id, Owner: string(one.Value)})
	}
	if len(list) > 0 {
		last := &list[len(list)-1]
		last.Ring = append(last.Ring, pointsOf(one.Value)...)
	}
	return list
}

func pointsOf(b []byte) api.Ring {
	var list api.Ring
	for chunk := range slices.Chunk(b, 2*coordSize) {
		x, _ := frame.Num(chunk, 0, coordSize)
		y, _ := frame.Num(chunk, coordSize, coordSize)
		list = append(list, api.Point{X: x - api.MaxCoord, Y: y - api.MaxCoord})
	}
	return list
}
