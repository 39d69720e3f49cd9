package gjson_test

import (
	"slices"
	"strconv"
	"strings"
	"testing"

	"merestone/api"
)

// Members

// objects are the steps to each object of a whole of two parcels.
func objects() map[string][]any {
	return map[string][]any{
		"the whole":               {},
		"the territory":           {"territory"},
		"the first feature":       {"features", 0},
		"the last feature":        {"features", 1},
		"the first one's owner":   {"features", 0, "properties"},
		"the last one's owner":    {"features", 1, "properties"},
		"the first one's polygon": {"features", 0, "geometry"},
		"the last one's polygon":  {"features", 1, "geometry"},
	}
}

// orders are all orders of the numbers below n.
func orders(n int) [][]int {
	if n == 0 {
		return [][]int{nil}
	}
	var all [][]int
	for _, order := range orders(n - 1) {
		for i := range n {
			all = append(all, slices.Insert(slices.Clone(order), i, n-1))
		}
	}
	return all
}

// inOrder lays an object's members down in another order.
func inOrder(order []int) func(part *api.Value) {
	return func(part *api.Value) {
		other := object()
		for _, i := range order {
			other = with(other, part.Keys[i], part.List[i])
		}
		*part = other
	}
}

func TestMembersInAnyOrder(t *testing.T) {
	p := halves()
	v := treeOf(p)
	for name, steps := range objects() {
		for _, order := range orders(len(node(&v, steps...).Keys)) {
			giveTree(t, name, changed(v, inOrder(order), steps...), p)
		}
	}
	const other = `{"features":[{"geometry":{"coordinates":[[[0,0],[4,0],[4,4],[0,4],[0,0]]],"type":"Polygon"},"properties":{"owner":"A"},"id":1,"type":"Feature"}],"territory":{"coordinates":[[[0,0],[4,0],[4,4],[0,4],[0,0]]],"type":"Polygon"},"type":"FeatureCollection"}`
	give(t, "all the other way round", other, square())
}

// others are values of all kinds for members that are not named.
func others() []api.Value {
	nested := list()
	for range api.MaxNest - 8 {
		nested = list(nested)
	}
	return []api.Value{
		null(), {Kind: api.JFalse}, {Kind: api.JTrue}, number("1.5e-7"), number("-0"), number("99999999999999999999999999"), said(""), said("\x00\u00e9\U0001F600"),
		list(), list(null(), number("1")), object(), with(object(), "type", said("Feature")), treeOf(halves()), nested,
		with(with(object(), "a", null()), "a", null()), list(with(with(object(), "type", number("1")), "type", number("1"))),
	}
}

// otherNames are names like those that are named, and of other objects.
func otherNames() []string {
	return []string{
		"", " ", "a", "bbox", "crs", "Type", "TYPE", "type ", " type", "typ", "types", "type\x00", "\"type\"", "coordinate", "Coordinates", "feature", "Features", "FeatureCollection",
		"ID", "Id", "id\n", "i", "property", "Properties", "owners", "Owner", "territories", "geometries", "Geometry", "outer", "0", "\u00e9", "\U0001F600",
	}
}

// More members, anything under any name, ahead of the others, amid them and behind.
func TestOtherMembers(t *testing.T) {
	p := halves()
	v := treeOf(p)
	for name, steps := range objects() {
		for _, value := range others() {
			for place := range len(node(&v, steps...).Keys) + 1 {
				giveTree(t, name, changed(v, func(part *api.Value) { *part = inserted(*part, place, "other", value) }, steps...), p)
			}
		}
		for _, key := range otherNames() {
			giveTree(t, name, changed(v, func(part *api.Value) { *part = with(*part, key, null()) }, steps...), p)
		}
		for _, key := range []string{"type", "territory", "features", "id", "properties", "geometry", "owner", "coordinates"} {
			if !slices.Contains(node(&v, steps...).Keys, key) {
				giveTree(t, name, changed(v, func(part *api.Value) { *part = with(*part, key, null()) }, steps...), p)
			}
		}
	}
}

// inserted answers an object with one member more at that place.
func inserted(v api.Value, place int, key string, value api.Value) api.Value {
	v.Keys = slices.Insert(slices.Clone(v.Keys), place, key)
	v.List = slices.Insert(slices.Clone(v.List), place, value)
	return v
}

// In all objects at once, as other programs write it.
func TestOtherMembersEverywhere(t *testing.T) {
	text := ` { "bbox" : [0,0,4,4] , "features":[ {"geometry":{"bbox":[0,0,4,4,"x"],"type":"Polygon","coordinates":[[[0,0],[4,0],[4,4],[0,4],[0,0]]],"crs":null},
		"id":1,"properties":{"since":1999,"owner":"\u0041","type":"x"},"\u0074ype":"Fe\u0061ture","features":{}} ],
		"id":"x","type":"FeatureCollection","name":"x","territory":{"type":"Polygon","coordinates":[[ [ 0 , 0 ] ,[4,0],[4,4],[0,4],[0,0]]],"properties":{"a":1,"b":[2]}}}` + "\n"
	give(t, "as others write it", text, square())
}

// A member twice in one object, named or not, with the same or another value, beside the first one or away from it.
func TestMembersTwice(t *testing.T) {
	v := treeOf(halves())
	for name, steps := range objects() {
		keys := node(&v, steps...).Keys
		for i, key := range keys {
			for place := range len(keys) + 1 {
				same := node(&v, steps...).List[i]
				for _, value := range []api.Value{same, null(), number("7"), said(""), list(), object()} {
					refuseTree(t, name+", "+key, changed(v, func(part *api.Value) { *part = inserted(*part, place, key, value) }, steps...), api.ErrForm)
				}
			}
		}
		for _, key := range otherNames() {
			refuseTree(t, name+", "+key, changed(v, func(part *api.Value) { *part = with(inserted(*part, 0, key, null()), key, number("1")) }, steps...), api.ErrForm)
			refuseTree(t, name+", "+key, changed(v, func(part *api.Value) { *part = with(with(*part, key, list()), key, list()) }, steps...), api.ErrForm)
		}
		refuseTree(t, name+", thrice", changed(v, func(part *api.Value) { *part = with(with(with(*part, "x", null()), "x", null()), "x", null()) }, steps...), api.ErrForm)
	}
	refuse(t, "one escaped", strings.Replace(example, `"type":"Feature",`, `"type":"Feature","\u0074ype":"Feature",`, 1), api.ErrForm)
	refuse(t, "others escaped", strings.Replace(example, `"id":1`, `"id":1,"\n":1,"\u000a":2`, 1), api.ErrForm)
}

// One name in several objects is not twice in one.
func TestMembersOfSeveralObjects(t *testing.T) {
	p := halves()
	v := treeOf(p)
	for _, steps := range objects() {
		v = changed(v, func(part *api.Value) { *part = with(*part, "note", with(object(), "note", object())) }, steps...)
	}
	giveTree(t, "a note in each", v, p)
}

func TestMembersThatAreLacking(t *testing.T) {
	v := treeOf(halves())
	for name, steps := range objects() {
		for i, key := range node(&v, steps...).Keys {
			lacking := changed(v, func(part *api.Value) {
				part.Keys, part.List = slices.Delete(part.Keys, i, i+1), slices.Delete(part.List, i, i+1)
			}, steps...)
			refuseTree(t, name+" without "+key, lacking, api.ErrForm)
			for _, other := range otherNames() {
				refuseTree(t, name+" with "+other+" for "+key, changed(v, func(part *api.Value) { part.Keys[i] = other }, steps...), api.ErrForm)
			}
		}
		refuseTree(t, name+" empty", replaced(v, object(), steps...), api.ErrForm)
	}
}

// Kinds

// eachKind are values of each kind but one.
func eachKind(but int) []api.Value {
	var values []api.Value
	for _, v := range others() {
		if v.Kind != but {
			values = append(values, v)
		}
	}
	return values
}

// Each part of a whole, replaced by values of all other kinds.
func TestPartsOfOtherKinds(t *testing.T) {
	v := treeOf(halves())
	eachNode(v, func(steps ...any) {
		for _, other := range eachKind(node(&v, steps...).Kind) {
			refuseTree(t, "a part of another kind", replaced(v, other, steps...), api.ErrForm)
		}
	})
}

// A list is no object of the same values, nor an object a list of them.
func TestListsAndObjects(t *testing.T) {
	v := treeOf(halves())
	eachNode(v, func(steps ...any) {
		switch part := *node(&v, steps...); part.Kind {
		case api.JList:
			named := object()
			for i, value := range part.List {
				named = with(named, "key "+strconv.Itoa(i), value)
			}
			refuseTree(t, "an object for a list", replaced(v, named, steps...), api.ErrForm)
			refuseTree(t, "a list of the list", replaced(v, list(part), steps...), api.ErrForm)
		case api.JObject:
			refuseTree(t, "a list for an object", replaced(v, list(part.List...), steps...), api.ErrForm)
			refuseTree(t, "a list of the object", replaced(v, list(part), steps...), api.ErrForm)
		case api.JNumber:
			refuseTree(t, "the number as a text", replaced(v, said(part.Text), steps...), api.ErrForm)
		}
	})
}

func TestTypes(t *testing.T) {
	v := treeOf(halves())
	eachNode(v, func(steps ...any) {
		if len(steps) == 0 || steps[len(steps)-1] != "type" {
			return
		}
		was := node(&v, steps...).Text
		for _, other := range []string{"", "Polygon", "Feature", "FeatureCollection", "polygon", "feature", "Featurecollection", "Point", "MultiPolygon", "LineString", "GeometryCollection", was + " ", " " + was, was + "s", was + "\x00", was[:len(was)-1], was[1:], strings.ToUpper(was), strings.ToLower(was)} {
			if other != was {
				refuseTree(t, "another type", replaced(v, said(other), steps...), api.ErrForm)
			}
		}
	})
	refuseTree(t, "a feature alone", *node(&v, "features", 0), api.ErrForm)
	refuseTree(t, "a polygon alone", *node(&v, "territory"), api.ErrForm)
	refuseTree(t, "features alone", *node(&v, "features"), api.ErrForm)
	for _, text := range []string{"null", "true", "false", "0", `""`, `"FeatureCollection"`, "[]", "{}", "[" + example + "]", `{"":` + example + "}"} {
		refuse(t, "no whole", text, api.ErrForm)
	}
}

// An owner is any text as far as the form goes; what it may be is the plan's.
func TestOwnersAsTheyAreTold(t *testing.T) {
	tell := func(owner string) string { return strings.Replace(example, `"A"`, owner, 1) }
	for text, owner := range map[string]string{
		`""`: "", `"\u0041nn"`: "Ann", `"\/"`: "/", `"/"`: "/", `"\""`: `"`, `"\\"`: `\`, `"~ "`: "~ ", `"\u007e\u0020"`: "~ ", `"` + strings.Repeat("a", 32) + `"`: strings.Repeat("a", 32), `"` + strings.Repeat(`\u0061`, 32) + `"`: strings.Repeat("a", 32),
	} {
		give(t, "an owner", tell(text), alone(1, owner, 0, 0, 4, 0, 4, 4, 0, 4))
	}
	for _, text := range []string{`"\n"`, `"\u0000"`, `"\u001f"`, `"\u007f"`, `"\u0080"`, "\"\u00e9\"", `"a\ud83d\ude00"`, `"` + strings.Repeat("a", 33) + `"`, `"` + strings.Repeat("\u00e9", 16) + `"`, `"` + strings.Repeat("a", 1000) + `"`} {
		refuse(t, "an owner that none is", tell(text), api.ErrForm)
	}
	for _, text := range []string{`"\ud800"`, "\"\n\"", "\"\xff\"", "A", ""} {
		refuse(t, "an owner that is no text", tell(text), api.ErrText)
	}
}
