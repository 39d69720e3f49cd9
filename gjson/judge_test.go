package gjson_test

import (
	"bytes"
	lib "encoding/json"
	"math/big"
	"regexp"
	"slices"
	"testing"

	"merestone/api"
	"merestone/json"
	"merestone/plan"
	"merestone/ring"
)

// The judge reckons what Decode has to answer in another way: it reads by the library, holds what it has read against shapes that are put together, and keeps all numbers as big ones.

type pair struct {
	key   string
	value any
}

// read answers what the library reads: an object as its pairs, so that those of one key are all there.
func read(d *lib.Decoder) any {
	token, err := d.Token()
	if err != nil {
		panic(err)
	}
	switch token {
	case lib.Delim('['):
		values := []any{}
		for d.More() {
			values = append(values, read(d))
		}
		d.Token()
		return values
	case lib.Delim('{'):
		pairs := []pair{}
		for d.More() {
			key, _ := d.Token()
			pairs = append(pairs, pair{key.(string), read(d)})
		}
		d.Token()
		return pairs
	}
	return token
}

func valueOf(text string) any {
	d := lib.NewDecoder(bytes.NewReader([]byte(text)))
	d.UseNumber()
	return read(d)
}

type shape func(v any) bool

func word(text string) shape {
	return func(v any) bool { return v == any(text) }
}

func anyText(v any) bool {
	_, is := v.(string)
	return is
}

var digits = regexp.MustCompile(`^(0|-?[1-9][0-9]*)$`)

func numeral(v any) bool {
	n, is := v.(lib.Number)
	return is && digits.MatchString(n.String())
}

// exactly is a list of these.
func exactly(parts ...shape) shape {
	return func(v any) bool {
		values, is := v.([]any)
		if !is || len(values) != len(parts) {
			return false
		}
		for i, value := range values {
			if !parts[i](value) {
				return false
			}
		}
		return true
	}
}

func manyOf(part shape) shape {
	return func(v any) bool {
		values, is := v.([]any)
		return is && !slices.ContainsFunc(values, func(v any) bool { return !part(v) })
	}
}

func closedList(v any) bool {
	values, is := v.([]any)
	if !is || len(values) < 4 {
		return false
	}
	first, last := values[0].([]any), values[len(values)-1].([]any)
	return big64(first[0]).Cmp(big64(last[0])) == 0 && big64(first[1]).Cmp(big64(last[1])) == 0
}

func both(one, other shape) shape {
	return func(v any) bool { return one(v) && other(v) }
}

// members is an object that has these, each key but once.
func members(named map[string]shape) shape {
	return func(v any) bool {
		pairs, is := v.([]pair)
		if !is {
			return false
		}
		count, found := map[string]int{}, 0
		for _, p := range pairs {
			count[p.key]++
			if part, asked := named[p.key]; asked && part(p.value) {
				found++
			}
			if count[p.key] > 1 {
				return false
			}
		}
		return found == len(named)
	}
}

func wholeShape() shape {
	points := both(manyOf(exactly(numeral, numeral)), closedList)
	polygon := members(map[string]shape{"type": word("Polygon"), "coordinates": exactly(points)})
	feature := members(map[string]shape{
		"type": word("Feature"), "id": numeral, "geometry": polygon,
		"properties": members(map[string]shape{"owner": anyText}),
	})
	return members(map[string]shape{"type": word("FeatureCollection"), "territory": polygon, "features": manyOf(feature)})
}

func big64(v any) *big.Int {
	n, _ := new(big.Int).SetString(v.(lib.Number).String(), 10)
	return n
}

// get is what stands under a key of an object that has it.
func get(v any, keys ...string) any {
	for _, key := range keys {
		pairs := v.([]pair)
		v = pairs[slices.IndexFunc(pairs, func(p pair) bool { return p.key == key })].value
	}
	return v
}

// A gauge reads numbers, and keeps in mind whether one was beyond its limits.
type gauge struct{ beyond bool }

func (g *gauge) number(v any, low, high int64) int {
	n := big64(v)
	if n.Cmp(big.NewInt(low)) < 0 || n.Cmp(big.NewInt(high)) > 0 {
		g.beyond = true
		return 0
	}
	return int(n.Int64())
}

func (g *gauge) ring(polygon any) api.Ring {
	var r api.Ring
	for _, p := range get(polygon, "coordinates").([]any)[0].([]any) {
		xy := p.([]any)
		r = append(r, at(g.number(xy[0], -1<<30, 1<<30), g.number(xy[1], -1<<30, 1<<30)))
	}
	return r[:len(r)-1]
}

// judged answers what Decode has to answer.
func judged(text string) (api.Plan, api.Errno) {
	if _, _, e := json.Parse([]byte(text)); e != api.OK {
		return api.Plan{}, e
	}
	v := valueOf(text)
	if !wholeShape()(v) {
		return api.Plan{}, api.ErrForm
	}
	var g gauge
	p := lay(g.ring(get(v, "territory")))
	rings, byID := []api.Ring{p.Outer}, map[int]api.Parcel{}
	features := get(v, "features").([]any)
	for _, f := range features {
		one := api.Parcel{ID: g.number(get(f, "id"), 1, 1<<30), Ring: g.ring(get(f, "geometry")), Owner: get(f, "properties", "owner").(string)}
		rings, byID[one.ID] = append(rings, one.Ring), one
	}
	switch {
	case g.beyond:
		return api.Plan{}, api.ErrRange
	case slices.ContainsFunc(rings, func(r api.Ring) bool { return ring.Check(r) != api.OK }):
		return api.Plan{}, api.ErrRing
	case len(byID) < len(features):
		return api.Plan{}, api.ErrThere
	}
	p.Outer = least(p.Outer)
	for _, one := range byID {
		one.Ring = least(one.Ring)
		p.Parcels = append(p.Parcels, one)
	}
	slices.SortFunc(p.Parcels, func(a, b api.Parcel) int { return a.ID - b.ID })
	if e := plan.Check(p); e != api.OK {
		return api.Plan{}, e
	}
	return p, api.OK
}

// judge holds Decode of a text against the reckoning, and answers the error that it has to be. Behind a failure nothing more is told: there are very many texts.
func judge(t *testing.T, text string) api.Errno {
	t.Helper()
	want, fault := judged(text)
	if t.Failed() {
		return fault
	}
	if fault == api.OK {
		give(t, "judged", text, want)
	} else {
		refuse(t, "judged", text, fault)
	}
	return fault
}

// The judge itself: it takes the example, and tells each error.
func TestJudge(t *testing.T) {
	for text, want := range map[string]api.Errno{
		example:              api.OK,
		"":                   api.ErrText,
		"{}":                 api.ErrForm,
		textOf(crossroads()): api.OK,
		textOf(api.Plan{Outer: of(0, 0, 4, 0, 4, 4)}):                                                         api.ErrForm,
		textOf(alone(0, "A", 0, 0, 4, 0, 4, 4)):                                                               api.ErrRange,
		textOf(alone(1, "A", 0, 0, 4, 4, 4, 0)):                                                               api.ErrRing,
		textOf(lay(of(0, 0, 4, 0, 4, 4), parcel(1, "A", 0, 0, 4, 0, 4, 4), parcel(1, "A", 0, 0, 4, 0, 4, 4))): api.ErrThere,
	} {
		if _, e := judged(text); e != want {
			t.Errorf("the judge tells %d of %s, and not %d", e, brief(text), want)
		}
	}
}
