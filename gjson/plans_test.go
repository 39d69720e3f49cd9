package gjson_test

import (
	"fmt"
	"slices"
	"strings"
	"testing"

	"merestone/api"
	"merestone/cut"
	"merestone/gjson"
	"merestone/plan"
)

// The calls as the chapter lists them: this does not compile if one is another.
var (
	_ func(api.Plan) ([]byte, api.Errno) = gjson.Encode
	_ func([]byte) (api.Plan, api.Errno) = gjson.Decode
)

const limit = api.MaxCoord

func at(x, y int) api.Point { return api.Point{X: x, Y: y} }

// of makes a ring of numbers: X and Y of one point after the other.
func of(numbers ...int) api.Ring {
	var r api.Ring
	for pair := range slices.Chunk(numbers, 2) {
		r = append(r, at(pair[0], pair[1]))
	}
	return r
}

func parcel(id int, owner string, corners ...int) api.Parcel {
	return api.Parcel{ID: id, Ring: of(corners...), Owner: owner}
}

func lay(outer api.Ring, list ...api.Parcel) api.Plan {
	return api.Plan{Outer: outer, Parcels: list}
}

// alone is a plan whose one parcel has all of the territory.
func alone(id int, owner string, corners ...int) api.Plan {
	return lay(of(corners...), parcel(id, owner, corners...))
}

func copied(p api.Plan) api.Plan {
	other := lay(slices.Clone(p.Outer), slices.Clone(p.Parcels)...)
	for i := range other.Parcels {
		other.Parcels[i].Ring = slices.Clone(p.Parcels[i].Ring)
	}
	return other
}

func equal(p, q api.Plan) bool {
	return slices.Equal(p.Outer, q.Outer) && slices.EqualFunc(p.Parcels, q.Parcels, func(a, b api.Parcel) bool {
		return a.ID == b.ID && a.Owner == b.Owner && slices.Equal(a.Ring, b.Ring)
	})
}

// least begins any ring at its least corner.
func least(r api.Ring) api.Ring {
	first := 0
	for i, p := range r {
		if p.X < r[first].X || p.X == r[first].X && p.Y < r[first].Y {
			first = i
		}
	}
	return slices.Concat(r[first:], r[:first])
}

// square is the chapter's example.
func square() api.Plan {
	return alone(1, "A", 0, 0, 4, 0, 4, 4, 0, 4)
}

// halves is chapter 6's example.
func halves() api.Plan {
	return lay(of(0, 0, 2, 0, 4, 0, 4, 4, 2, 4, 0, 4), parcel(1, "Ann", 2, 0, 4, 0, 4, 4, 2, 4), parcel(2, "Bob", 0, 0, 2, 0, 2, 4, 0, 4))
}

// crossroads is a square in four, with one point in common.
func crossroads() api.Plan {
	return lay(of(0, 0, 2, 0, 4, 0, 4, 2, 4, 4, 2, 4, 0, 4, 0, 2),
		parcel(2, "", 0, 0, 2, 0, 2, 2, 0, 2), parcel(4, " ", 2, 0, 4, 0, 4, 2, 2, 2),
		parcel(60, `"\`, 0, 2, 2, 2, 2, 4, 0, 4), parcel(api.MaxID, "Ann", 2, 2, 4, 2, 4, 4, 2, 4))
}

// creek is two with a border that winds: the second one's first corner is amid it.
func creek() api.Plan {
	return lay(of(0, 0, 4, 0, 8, 0, 8, 8, 4, 8, 0, 8),
		parcel(100, "Ann", 0, 0, 4, 0, 2, 2, 6, 3, 4, 4, 2, 6, 4, 8, 0, 8),
		parcel(1000, "Ann", 2, 2, 4, 0, 8, 0, 8, 8, 4, 8, 2, 6, 4, 4, 6, 3))
}

// gate is two with a border in three parts: 5 and 7 lie between.
func gate() api.Plan {
	return lay(of(0, 0, 4, 0, 8, 0, 8, 8, 4, 8, 0, 8),
		parcel(3, "a", 0, 0, 4, 0, 4, 1, 3, 2, 4, 3, 4, 5, 3, 6, 4, 7, 4, 8, 0, 8),
		parcel(5, "b", 3, 2, 4, 1, 5, 2, 4, 3), parcel(7, "c", 3, 6, 4, 5, 5, 6, 4, 7),
		parcel(9, "d", 4, 0, 8, 0, 8, 8, 4, 8, 4, 7, 5, 6, 4, 5, 4, 3, 5, 2, 4, 1))
}

// vee is one below a notch of the territory, as wide as that, and one around it.
func vee() api.Plan {
	return lay(of(0, 0, 8, 0, 8, 8, 6, 8, 4, 4, 2, 8, 0, 8),
		parcel(1, "Ann", 0, 0, 8, 0, 8, 8, 6, 8, 4, 2, 2, 8, 0, 8), parcel(2, "Bob", 2, 8, 4, 2, 6, 8, 4, 4))
}

// all are plans of all kinds, between 0 and 8.
func all() map[string]api.Plan {
	return map[string]api.Plan{
		"square": square(), "halves": halves(), "crossroads": crossroads(), "creek": creek(), "gate": gate(), "vee": vee(),
		"triangle": alone(api.MaxID, "Zoe", 0, 0, 8, 3, 5, 8),
		"marked":   alone(17, "~", 0, 0, 3, 0, 5, 0, 8, 0, 8, 8, 4, 8, 0, 8, 0, 1),
	}
}

// A view lays the plane down elsewhere. Where it is mirrored, left and right change places, so that rings run the other way round.
type view struct {
	mirrored bool
	to       func(api.Point) api.Point
}

func views() map[string]view {
	return map[string]view{
		"as it is":          {false, func(p api.Point) api.Point { return p }},
		"turned once":       {false, func(p api.Point) api.Point { return at(-p.Y, p.X) }},
		"turned twice":      {false, func(p api.Point) api.Point { return at(-p.X, -p.Y) }},
		"turned thrice":     {false, func(p api.Point) api.Point { return at(p.Y, -p.X) }},
		"left and right":    {true, func(p api.Point) api.Point { return at(-p.X, p.Y) }},
		"above and below":   {true, func(p api.Point) api.Point { return at(p.X, -p.Y) }},
		"X and Y":           {true, func(p api.Point) api.Point { return at(p.Y, p.X) }},
		"-X and -Y":         {true, func(p api.Point) api.Point { return at(-p.Y, -p.X) }},
		"around the nought": {false, func(p api.Point) api.Point { return at(p.X-4, p.Y-4) }},
		"slanted":           {false, func(p api.Point) api.Point { return at(2*p.X+p.Y-9, p.X+3*p.Y-11) }},
		"all that is Good":  {false, func(p api.Point) api.Point { return at((p.X-4)*(limit/4), (p.Y-4)*(limit/4)) }},
		"high and low":      {false, func(p api.Point) api.Point { return at(limit-8+p.X, -limit+p.Y) }},
		"many digits":       {true, func(p api.Point) api.Point { return at(123456789-p.X*10007, -987654321+p.Y*100003) }},
	}
}

func (v view) ring(r api.Ring) api.Ring {
	var seen api.Ring
	for _, p := range r {
		seen = append(seen, v.to(p))
	}
	if v.mirrored {
		slices.Reverse(seen)
	}
	return least(seen)
}

func (v view) plan(p api.Plan) api.Plan {
	seen := lay(v.ring(p.Outer))
	for _, parcel := range p.Parcels {
		parcel.Ring = v.ring(parcel.Ring)
		seen.Parcels = append(seen.Parcels, parcel)
	}
	return seen
}

// eachPlan goes through all plans under all views.
func eachPlan(t *testing.T, visit func(what string, p api.Plan)) {
	t.Helper()
	for name, p := range all() {
		for seen, v := range views() {
			what, one := name+", "+seen, v.plan(p)
			if plan.Check(one) != api.OK {
				t.Fatalf("%s is not sound: %v", what, one)
			}
			visit(what, one)
		}
	}
}

// eachOfChain goes through the plans of one parcel that is cut to two, and so on, till there are MaxParcels.
func eachOfChain(t *testing.T, visit func(p api.Plan)) {
	t.Helper()
	p, fault := plan.Begin(of(-8, -80, 8, -80, 8, 80, -8, 80), 1000, "Ann")
	split := func(id, fresh int, path api.Ring) {
		if fault == api.OK {
			visit(p)
			p, fault = cut.Split(p, id, path, fresh)
		}
	}
	for column := range 7 {
		x := 2*column - 6
		split(1000, 7*column+1, of(x, -80, x, 80))
	}
	for column, id := range []int{1, 8, 15, 22, 29, 36, 43, 1000} {
		for row := range 7 {
			x, y := 2*column-8, 20*row-60
			split(id, 100*row+column+50, of(x+2, y, x+1, y+7-column, x, y))
		}
	}
	if fault != api.OK || len(p.Parcels) != api.MaxParcels {
		t.Fatalf("a chain of %d parcels: %d", len(p.Parcels), fault)
	}
	visit(p)
}

// textOf is the text of a plan by the chapter's words.
func textOf(p api.Plan) string {
	var features []string
	for _, one := range p.Parcels {
		features = append(features, fmt.Sprintf(`{"type":"Feature","id":%d,"properties":{"owner":"%s"},"geometry":%s}`, one.ID, escaped(one.Owner), polygonOf(one.Ring)))
	}
	return fmt.Sprintf(`{"type":"FeatureCollection","territory":%s,"features":[%s]}`, polygonOf(p.Outer), strings.Join(features, ","))
}

func escaped(owner string) string {
	return strings.NewReplacer(`\`, `\\`, `"`, `\"`).Replace(owner)
}

func polygonOf(r api.Ring) string {
	var points []string
	for _, p := range append(slices.Clone(r), r[0]) {
		points = append(points, fmt.Sprintf("[%d,%d]", p.X, p.Y))
	}
	return `{"type":"Polygon","coordinates":[[` + strings.Join(points, ",") + `]]}`
}

// brief is something to be shown, cut where it is long.
func brief(what any) string {
	text := strings.ToValidUTF8(fmt.Sprintf("%+v", what), "?")
	if len(text) > 400 {
		return text[:300] + " .. " + text[len(text)-80:]
	}
	return text
}

// giveText holds Encode of a plan against the text that it has to be.
func giveText(t *testing.T, what string, p api.Plan, want string) {
	t.Helper()
	b, e := gjson.Encode(p)
	if string(b) != want || e != api.OK {
		t.Errorf("%s: Encode(%s) is %s, %d, and not %s", what, brief(p), brief(string(b)), e, brief(want))
	}
}

func refusePlan(t *testing.T, what string, p api.Plan) {
	t.Helper()
	b, e := gjson.Encode(p)
	if len(b) != 0 || e != api.ErrForm {
		t.Errorf("%s: Encode(%s) is %s, %d", what, brief(p), brief(string(b)), e)
	}
}

// give holds Decode of a text against the plan that it has to tell.
func give(t *testing.T, what, text string, want api.Plan) {
	t.Helper()
	p, e := gjson.Decode([]byte(text))
	if !equal(p, want) || e != api.OK {
		t.Errorf("%s: Decode(%s) is %s, %d, and not %s", what, brief(text), brief(p), e, brief(want))
	}
}

// refuse asks for an error of Decode, and for nothing else beside it.
func refuse(t *testing.T, what, text string, fault api.Errno) {
	t.Helper()
	p, e := gjson.Decode([]byte(text))
	if len(p.Outer) != 0 || len(p.Parcels) != 0 || e != fault {
		t.Errorf("%s: Decode(%s) is %s, %d, and not %d", what, brief(text), brief(p), e, fault)
	}
}
