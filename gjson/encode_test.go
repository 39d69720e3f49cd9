package gjson_test

import (
	"fmt"
	"slices"
	"strings"
	"testing"

	"merestone/api"
	"merestone/gjson"
	"merestone/plan"
)

const example = `{"type":"FeatureCollection","territory":{"type":"Polygon","coordinates":[[[0,0],[4,0],[4,4],[0,4],[0,0]]]},"features":[{"type":"Feature","id":1,"properties":{"owner":"A"},"geometry":{"type":"Polygon","coordinates":[[[0,0],[4,0],[4,4],[0,4],[0,0]]]}}]}`

func TestExample(t *testing.T) {
	p, _ := plan.Begin(of(0, 0, 4, 0, 4, 4, 0, 4), 1, "A")
	giveText(t, "the example", p, example)
	give(t, "the example", example, p)
}

// Written out whole: two parcels, numbers with a - ahead, of one digit and of many, and what is escaped.
func TestTwoParcels(t *testing.T) {
	p := lay(of(-1073741824, -7, 0, -7, 1073741824, 1000000000, -10, 20),
		parcel(30, `He said "no"`, -1073741824, -7, 0, -7, -10, 20), parcel(1073741824, `C:\`, -10, 20, 0, -7, 1073741824, 1000000000))
	text := `{"type":"FeatureCollection","territory":{"type":"Polygon","coordinates":[[[-1073741824,-7],[0,-7],[1073741824,1000000000],[-10,20],[-1073741824,-7]]]},"features":[` +
		`{"type":"Feature","id":30,"properties":{"owner":"He said \"no\""},"geometry":{"type":"Polygon","coordinates":[[[-1073741824,-7],[0,-7],[-10,20],[-1073741824,-7]]]}},` +
		`{"type":"Feature","id":1073741824,"properties":{"owner":"C:\\"},"geometry":{"type":"Polygon","coordinates":[[[-10,20],[0,-7],[1073741824,1000000000],[-10,20]]]}}]}`
	giveText(t, "two parcels", p, text)
	give(t, "two parcels", text, p)
}

// thereAndBack holds Encode against the chapter's words, and Decode of its text against the plan.
func thereAndBack(t *testing.T, what string, p api.Plan) {
	t.Helper()
	text := textOf(p)
	giveText(t, what, p, text)
	give(t, what, text, p)
}

func TestThereAndBack(t *testing.T) {
	eachPlan(t, func(what string, p api.Plan) { thereAndBack(t, what, p) })
	eachOfChain(t, func(p api.Plan) { thereAndBack(t, fmt.Sprint(len(p.Parcels), " parcels"), p) })
}

// Each byte that an owner may have: alone, as the first, amid and as the last one of as many as there may be.
func TestOwners(t *testing.T) {
	owners := []string{"", "null", "1", `\u0041`, `\\`, `""`, `\"`, `\n`, "</a>&", strings.Repeat(`"`, 32), strings.Repeat(`\`, 32), strings.Repeat(" ", 32)}
	for b := byte(32); b <= 126; b++ {
		one := string(rune(b))
		owners = append(owners, one, one+strings.Repeat("x", 31), strings.Repeat("x", 15)+one+strings.Repeat("x", 16), strings.Repeat("x", 31)+one)
	}
	for _, owner := range owners {
		thereAndBack(t, "an owner", alone(1, owner, 0, 0, 4, 0, 4, 4, 0, 4))
	}
}

func TestIDs(t *testing.T) {
	for _, id := range []int{1, 2, 9, 10, 11, 99, 100, 1000, 65535, 65536, 999999999, 1000000000, api.MaxID - 1, api.MaxID} {
		thereAndBack(t, "an ID", alone(id, "A", 0, 0, 4, 0, 4, 4, 0, 4))
	}
}

// Each number at and beside powers of two and of ten, ahead of 0 and behind it.
func TestCoordinates(t *testing.T) {
	var numbers []int
	for _, base := range []int{2, 10} {
		for n := 1; n <= limit; n *= base {
			numbers = append(numbers, n-1, n, n+1, -n+1, -n, -n-1)
		}
	}
	slices.Sort(numbers)
	for _, n := range slices.Compact(numbers) {
		if -limit <= n && n < limit {
			thereAndBack(t, "a coordinate", alone(1, "A", n, n, n+1, n, n+1, n+1))
			thereAndBack(t, "a coordinate", alone(1, "A", -limit, n, limit, n, limit, n+1))
			thereAndBack(t, "a coordinate", alone(1, "A", n, -limit, n+1, -limit, n, limit))
		}
	}
}

// comb is a sound ring of so many corners, an even number from 4 on: it goes to and fro between two levels.
func comb(corners, left, low, step, high int) api.Ring {
	r := of(left, low, left+step*(corners-3), low)
	for i := corners - 3; i >= 0; i-- {
		r = append(r, at(left+step*i, high-step*(i%2)))
	}
	return least(r)
}

func TestRingsAsLongAsMayBe(t *testing.T) {
	for _, corners := range []int{4, 64, 100, api.MaxPoints - 2, api.MaxPoints} {
		r := comb(corners, -50, -60, 1, 70)
		if len(r) != corners {
			t.Fatalf("a comb of %d corners", len(r))
		}
		thereAndBack(t, "a comb", lay(r, api.Parcel{ID: 1, Ring: r, Owner: "A"}))
	}
}

// columns is a plan of upright strips, side by side, far from the nought; borders tells how many edges each upright border has, the territory's two among them. It need not be sound.
func columns(owner string, borders ...int) api.Plan {
	const low, width = -limit, 1 << 24
	border := func(i int) api.Ring {
		var r api.Ring
		for y := range borders[i] {
			r = append(r, at(low+width*i+3*(y%2), low+y))
		}
		return append(r, at(low+width*i, low+1000))
	}
	downward := func(i int) api.Ring {
		r := border(i)
		slices.Reverse(r)
		return r
	}
	var p api.Plan
	last := len(borders) - 1
	for i := range last {
		p.Parcels = append(p.Parcels, api.Parcel{ID: api.MaxID - last + i, Ring: least(slices.Concat(border(i+1), downward(i))), Owner: owner})
		p.Outer = append(p.Outer, border(i)[0])
	}
	p.Outer = append(p.Outer, border(last)...)
	for i := last - 1; i > 0; i-- {
		p.Outer = append(p.Outer, at(low+width*i, low+1000))
	}
	left := downward(0)
	p.Outer = least(append(p.Outer, left[:len(left)-1]...))
	return p
}

// slab is a plan of squares, so many along and so many up, with a corner wherever squares have one. It need not be sound.
func slab(along, up int) api.Plan {
	var p api.Plan
	for x := range along {
		for y := range up {
			p.Parcels = append(p.Parcels, parcel(x*up+y+1, "A", x, y, x+1, y, x+1, y+1, x, y+1))
		}
	}
	for x := range along {
		p.Outer = append(p.Outer, at(x, 0))
	}
	for y := range up {
		p.Outer = append(p.Outer, at(along, y))
	}
	for x := range along {
		p.Outer = append(p.Outer, at(along-x, up))
	}
	for y := range up {
		p.Outer = append(p.Outer, at(0, up-y))
	}
	return p
}

// alike are so many borders of so many edges.
func alike(borders, edges int) []int {
	return slices.Repeat([]int{edges}, borders)
}

func corners(p api.Plan) int {
	count := len(p.Outer)
	for _, one := range p.Parcels {
		count += len(one.Ring)
	}
	return count
}

// As many parcels and corners as may be, owners as long, with each byte escaped, numbers as long: the longest texts have room, so that Encode is never ErrLarge.
func TestPlansAsLargeAsMayBe(t *testing.T) {
	most := 0
	large := func(p api.Plan) {
		thereAndBack(t, "large", p)
		most = max(most, len(textOf(p)))
	}
	long := strings.Repeat(`"`, api.MaxOwner)
	large(slab(16, 4))
	for _, c := range []struct {
		corners int
		borders []int
	}{
		{374, alike(63, 1)}, {1022, alike(27, 17)}, {1022, alike(19, 25)}, {252, alike(2, 62)}, {256, alike(2, 63)},
		{api.MaxCorners - 2, []int{1, 61, 61, 62, 61, 62, 61, 62, 61, 1}},
		{api.MaxCorners, []int{1, 61, 61, 62, 61, 62, 61, 62, 62, 1}},
	} {
		p := columns(long, c.borders...)
		if corners(p) != c.corners || plan.Check(p) != api.OK {
			t.Fatalf("borders of %v: %d corners, %d", c.borders, corners(p), plan.Check(p))
		}
		large(p)
	}
	eachOfChain(t, func(p api.Plan) {
		p = view{to: func(p api.Point) api.Point { return at(p.X+limit-8, p.Y-limit+80) }}.plan(p)
		for i := range p.Parcels {
			p.Parcels[i].Owner = long
		}
		if len(p.Parcels) == api.MaxParcels {
			large(p)
		}
	})
	// Each of MaxCorners corners, and of each ring the first one once more, takes less than 30 bytes; each parcel takes less than 250 beside.
	const bound = 30*(api.MaxCorners+api.MaxParcels+1) + 250*api.MaxParcels + 250
	if most < 1<<14 || most > bound || bound > api.MaxText {
		t.Errorf("the longest text has %d bytes, and may have %d", most, bound)
	}
}

// A plan that is not sound is ErrForm, whatever is wrong with it.
func TestPlansThatAreNotSound(t *testing.T) {
	for _, c := range []struct {
		name   string
		change func(p *api.Plan)
	}{
		{"nothing", func(p *api.Plan) { *p = api.Plan{} }},
		{"no parcels", func(p *api.Plan) { p.Parcels = nil }},
		{"no territory", func(p *api.Plan) { p.Outer = nil }},
		{"an ID of 0", func(p *api.Plan) { p.Parcels[0].ID = 0 }},
		{"an ID below 0", func(p *api.Plan) { p.Parcels[0].ID = -1 }},
		{"an ID beyond MaxID", func(p *api.Plan) { p.Parcels[3].ID = api.MaxID + 1 }},
		{"an ID twice", func(p *api.Plan) { p.Parcels[0].ID = p.Parcels[1].ID }},
		{"IDs that fall", func(p *api.Plan) { p.Parcels[0], p.Parcels[1] = p.Parcels[1], p.Parcels[0] }},
		{"IDs that fall at the end", func(p *api.Plan) { p.Parcels[2], p.Parcels[3] = p.Parcels[3], p.Parcels[2] }},
		{"an owner too long", func(p *api.Plan) { p.Parcels[3].Owner = strings.Repeat("a", 33) }},
		{"an owner with a byte below 32", func(p *api.Plan) { p.Parcels[0].Owner = "a\x1f" }},
		{"an owner with a byte above 126", func(p *api.Plan) { p.Parcels[1].Owner = "\x7f" }},
		{"an owner in another script", func(p *api.Plan) { p.Parcels[2].Owner = "\u00e9" }},
		{"an owner that is no UTF-8", func(p *api.Plan) { p.Parcels[2].Owner = "\xff" }},
		{"a parcel lacking", func(p *api.Plan) { p.Parcels = p.Parcels[:3] }},
		{"the first parcel lacking", func(p *api.Plan) { p.Parcels = p.Parcels[1:] }},
		{"a territory begun elsewhere", func(p *api.Plan) { p.Outer = slices.Concat(p.Outer[1:], p.Outer[:1]) }},
		{"a ring begun elsewhere", func(p *api.Plan) { r := &p.Parcels[2].Ring; *r = slices.Concat((*r)[3:], (*r)[:3]) }},
		{"a territory turned round", func(p *api.Plan) { slices.Reverse(p.Outer[1:]) }},
		{"a ring turned round", func(p *api.Plan) { slices.Reverse(p.Parcels[1].Ring[1:]) }},
		{"a ring with its first corner once more", func(p *api.Plan) { p.Parcels[1].Ring = append(p.Parcels[1].Ring, p.Parcels[1].Ring[0]) }},
		{"a ring of two corners", func(p *api.Plan) { p.Parcels[1].Ring = p.Parcels[1].Ring[:2] }},
		{"a ring of none", func(p *api.Plan) { p.Parcels[3].Ring = nil }},
		{"a corner that the neighbours lack", func(p *api.Plan) { p.Parcels[0].Ring = of(0, 0, 2, 0, 2, 1, 2, 2, 0, 2) }},
		{"a corner lacking", func(p *api.Plan) { p.Outer = of(0, 0, 4, 0, 4, 2, 4, 4, 2, 4, 0, 4, 0, 2) }},
		{"a corner elsewhere", func(p *api.Plan) { p.Parcels[0].Ring[2] = at(1, 1) }},
		{"a corner that is not Good", func(p *api.Plan) { p.Outer[4] = at(limit+1, limit+1) }},
		{"a parcel of another place", func(p *api.Plan) { p.Parcels[0].Ring = of(10, 0, 12, 0, 12, 2, 10, 2) }},
		{"a parcel on another", func(p *api.Plan) { p.Parcels[1].Ring = slices.Clone(p.Parcels[0].Ring) }},
	} {
		p := copied(crossroads())
		c.change(&p)
		if plan.Check(p) != api.ErrForm {
			t.Fatalf("%s: a sound plan", c.name)
		}
		refusePlan(t, c.name, p)
	}
	refusePlan(t, "no plan at all", api.Plan{})
	refusePlan(t, "one parcel more than MaxParcels", slab(13, 5))
	refusePlan(t, "a ring of more than MaxPoints", columns("", 64, 63))
	refusePlan(t, "a plan of more than MaxCorners", columns("", 1, 61, 61, 62, 61, 62, 61, 62, 62, 2))
	refusePlan(t, "a text that would be longer than MaxText", columns(strings.Repeat("a", api.MaxText), 1, 1))
}

// What Encode writes is a GeoJSON reader's text: it is without blanks but in owners.
func TestTextsHaveNoBlanks(t *testing.T) {
	eachPlan(t, func(what string, p api.Plan) {
		for i := range p.Parcels {
			p.Parcels[i].Owner = ""
		}
		if b, e := gjson.Encode(p); e != api.OK || strings.ContainsAny(string(b), " \t\r\n") {
			t.Errorf("%s: %s, %d", what, b, e)
		}
	})
}
