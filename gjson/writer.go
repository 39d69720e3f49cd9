package gjson

import (
	"strconv"

	"merestone/api"
)

// member is a value with its name in an object.
type member struct {
	api.Value
	name string
}

func whole(p api.Plan) api.Value {
	var features []api.Value
	for _, parcel := range p.Parcels {
		features = append(features, feature(parcel))
	}
	return object(
		member{text("FeatureCollection"), "type"},
		member{polygon(p.Outer), "territory"},
		member{list(features...), "features"},
	)
}

func feature(parcel api.Parcel) api.Value {
	return object(
		member{text("Feature"), "type"},
		member{number(parcel.ID), "id"},
		member{object(member{text(parcel.Owner), "owner"}), "properties"},
		member{polygon(parcel.Ring), "geometry"},
	)
}

// polygon is for a sound ring alone: it has a first corner.
func polygon(r api.Ring) api.Value {
	var points []api.Value
	for _, at := range r {
		points = append(points, point(at))
	}
	points = append(points, point(r[0]))
	return object(
		member{text("Polygon"), "type"},
		member{list(list(points...)), "coordinates"},
	)
}

func point(at api.Point) api.Value {
	return list(number(at.X), number(at.Y))
}

func object(members ...member) api.Value {
	v := api.Value{Kind: api.JObject}
	for _, m := range members {
		v.Keys, v.List = append(v.Keys, m.name), append(v.List, m.Value)
	}
	return v
}

func list(values ...api.Value) api.Value {
	return api.Value{Kind: api.JList, List: values}
}

func text(says string) api.Value {
	return api.Value{Kind: api.JString, Text: says}
}

func number(n int) api.Value {
	return api.Value{Kind: api.JNumber, Text: strconv.Itoa(n)}
}
