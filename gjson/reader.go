package gjson

import (
	"slices"
	"strconv"
	"strings"

	"merestone/api"
)

// What is read here stands as it is told: its numbers may be beyond their limits, its rings and the plan unsound. Those errors come behind the form's, so that all of the form is looked at first.

func wholeOf(v api.Value) (api.Plan, bool) {
	members := membersOf(v)
	outer, bounded := polygonOf(members["territory"])
	parcels, divided := parcelsOf(members["features"])
	formed := says(members["type"], "FeatureCollection") && bounded && divided
	return api.Plan{Outer: outer, Parcels: parcels}, formed
}

func parcelsOf(v api.Value) ([]api.Parcel, bool) {
	var parcels []api.Parcel
	for _, part := range v.List {
		parcel, formed := parcelOf(part)
		if !formed {
			return nil, false
		}
		parcels = append(parcels, parcel)
	}
	return parcels, v.Kind == api.JList
}

func parcelOf(v api.Value) (api.Parcel, bool) {
	members := membersOf(v)
	id, numbered := numberOf(members["id"])
	owner := membersOf(members["properties"])["owner"]
	r, bounded := polygonOf(members["geometry"])
	formed := says(members["type"], "Feature") && numbered && owner.Kind == api.JString && bounded
	return api.Parcel{ID: id, Ring: r, Owner: owner.Text}, formed
}

func polygonOf(v api.Value) (api.Ring, bool) {
	members := membersOf(v)
	rings := members["coordinates"]
	if !says(members["type"], "Polygon") || !isList(rings, 1) {
		return nil, false
	}
	return ringOf(rings.List[0])
}

// ringOf answers the corners alone: the last point is the first one again.
func ringOf(v api.Value) (api.Ring, bool) {
	if v.Kind != api.JList || len(v.List) < 4 {
		return nil, false
	}
	var r api.Ring
	for _, part := range v.List {
		at, formed := pointOf(part)
		if !formed {
			return nil, false
		}
		r = append(r, at)
	}
	return r[:len(r)-1], closed(v.List)
}

// closed holds the first point against the last one as they are written: two numbers that no int holds are told apart by that alone.
func closed(points []api.Value) bool {
	first, last := points[0], points[len(points)-1]
	return slices.EqualFunc(first.List, last.List, func(a, b api.Value) bool { return a.Text == b.Text })
}

func pointOf(v api.Value) (api.Point, bool) {
	if !isList(v, 2) {
		return api.Point{}, false
	}
	x, across := numberOf(v.List[0])
	y, up := numberOf(v.List[1])
	return api.Point{X: x, Y: y}, across && up
}

// numberOf answers a number of digits, with or without a - ahead; of one that no int holds the nearest int, which is beyond all limits too.
func numberOf(v api.Value) (int, bool) {
	digits := strings.TrimPrefix(v.Text, "-")
	if v.Kind != api.JNumber || v.Text == "-0" || strings.Trim(digits, "0123456789") != "" {
		return 0, false
	}
	n, _ := strconv.Atoi(v.Text)
	return n, true
}

// membersOf answers the members of an object by their names: none, if two have one name, or if it is no object. What is not there has no kind.
func membersOf(v api.Value) map[string]api.Value {
	members := map[string]api.Value{}
	for i, name := range v.Keys {
		if _, there := members[name]; there {
			return nil
		}
		members[name] = v.List[i]
	}
	return members
}

func isList(v api.Value, length int) bool {
	return v.Kind == api.JList && len(v.List) == length
}

func says(v api.Value, text string) bool {
	return v.Kind == api.JString && v.Text == text
}
