package record_test

import (
	"bytes"
	"fmt"
	"maps"
	"slices"
	"strings"
	"testing"

	"merestone/api"
	"merestone/plan"
	"merestone/record"
	"merestone/ring"
)

// The corners of a square of 4, as bytes.
const (
	lowLeft   = "40000000 40000000"
	lowRight  = "40000004 40000000"
	highRight = "40000004 40000004"
	highLeft  = "40000000 40000004"
)

// squareItems are written out whole.
func squareItems() []api.Item {
	return []api.Item{
		item("c 80 80 00000001", ""),
		item("e"+lowLeft+lowRight, "00000001"),
		item("e"+highLeft+lowLeft, "00000001"),
		item("e"+lowRight+highRight, "00000001"),
		item("e"+highRight+highLeft, "00000001"),
		item("o 00", lowLeft+lowRight+highRight+highLeft),
		owned("p 00000001 00", "A"),
		item("p 00000001 01", lowLeft+lowRight+highRight+highLeft),
	}
}

func TestExample(t *testing.T) {
	p, _ := plan.Begin(of(0, 0, 4, 0, 4, 4, 0, 4), 1, "A")
	giveItems(t, "the example", p, squareItems())
	give(t, "the example", squareItems(), p)
	kinds := map[byte]int{}
	for _, one := range squareItems() {
		kinds[one.Key[0]]++
	}
	if !maps.Equal(kinds, map[byte]int{'o': 1, 'p': 2, 'e': 4, 'c': 1}) {
		t.Errorf("the example has %v", kinds)
	}
}

// Two parcels, written out whole: their common border is both's, once each way round, and the territory's edges are their parcels' alone.
func TestTwoParcels(t *testing.T) {
	const low, high = "40000002 40000000", "40000002 40000004"
	list := []api.Item{
		item("c 80 80 00000001", ""), item("c 80 80 00000002", ""),
		item("e"+lowLeft+low, "00000002"), item("e"+highLeft+lowLeft, "00000002"),
		item("e"+low+high, "00000002"), item("e"+low+lowRight, "00000001"),
		item("e"+high+highLeft, "00000002"), item("e"+high+low, "00000001"),
		item("e"+lowRight+highRight, "00000001"), item("e"+highRight+high, "00000001"),
		item("o 00", lowLeft+low+lowRight+highRight+high+highLeft),
		owned("p 00000001 00", "Ann"), item("p 00000001 01", low+lowRight+highRight+high),
		owned("p 00000002 00", "Bob"), item("p 00000002 01", lowLeft+low+high+highLeft),
	}
	slices.SortFunc(list, func(a, b api.Item) int { return bytes.Compare(a.Key, b.Key) })
	giveItems(t, "halves", halves(), list)
	give(t, "halves", list, halves())
}

// A square in four cells, on either side of 0.
func TestAroundTheNought(t *testing.T) {
	const a, b, c, d = "3fffffff 3fffffff", "40000001 3fffffff", "40000001 40000001", "3fffffff 40000001"
	p := alone(0x01020304, "", -1, -1, 1, -1, 1, 1, -1, 1)
	list := []api.Item{
		item("c 7f 7f 01020304", ""), item("c 7f 80 01020304", ""), item("c 80 7f 01020304", ""), item("c 80 80 01020304", ""),
		item("e"+a+b, "01020304"), item("e"+d+a, "01020304"), item("e"+b+c, "01020304"), item("e"+c+d, "01020304"),
		item("o 00", a+b+c+d),
		item("p 01020304 00", ""), item("p 01020304 01", a+b+c+d),
	}
	giveItems(t, "around the nought", p, list)
	give(t, "around the nought", list, p)
}

// All that is Good: the corners are at the limits, and each cell of the plane is there.
func TestAllThatIsGood(t *testing.T) {
	const a, b, c, d = "00000000 00000000", "80000000 00000000", "80000000 80000000", "00000000 80000000"
	p := alone(api.MaxID, strings.Repeat("~", 32), -limit, -limit, limit, -limit, limit, limit, -limit, limit)
	var list []api.Item
	for x := 124; x <= 132; x++ {
		for y := 124; y <= 132; y++ {
			list = append(list, item(fmt.Sprintf("c %02x %02x 40000000", x, y), ""))
		}
	}
	list = append(list,
		item("e"+a+b, "40000000"), item("e"+d+a, "40000000"), item("e"+b+c, "40000000"), item("e"+c+d, "40000000"),
		item("o 00", a+b+c+d), item("p 40000000 00", strings.Repeat("7e", 32)), item("p 40000000 01", a+b+c+d))
	giveItems(t, "all that is Good", p, list)
	give(t, "all that is Good", list, p)
}

// needItem asks for one item among those of a plan.
func needItem(t *testing.T, what string, p api.Plan, want api.Item) {
	t.Helper()
	list, e := record.Items(p)
	if count := len(slices.DeleteFunc(list, func(one api.Item) bool { return !sameItem(one, want) })); e != api.OK || count != 1 {
		t.Errorf("%s: %s is there %d times, error %d", what, shown([]api.Item{want}), count, e)
	}
}

// triangle has a corner there, and its two others near 0.
func triangle(x, y int) api.Plan {
	r := of(x, y, 5, -1, 7, 9)
	if ring.Check(r) != api.OK {
		slices.Reverse(r)
	}
	return lay(least(r), api.Parcel{ID: 5, Ring: least(r)})
}

// A number at each place in which a point may have one: X and Y of its own, and of an edge's ends, in Outer and in a ring.
func TestCoordinatesAsBytes(t *testing.T) {
	texts := map[api.Point]string{}
	for n, text := range map[int]string{
		-limit: "00000000", -limit + 1: "00000001", -limit + 255: "000000ff", -limit + 256: "00000100", -limit + 0xffffff: "00ffffff", -limit + 0x1000000: "01000000",
		-123456789: "38a432eb", -65536: "3fff0000", -256: "3fffff00", -1: "3fffffff", 0: "40000000", 1: "40000001", 127: "4000007f", 128: "40000080", 255: "400000ff", 256: "40000100",
		65535: "4000ffff", 65536: "40010000", 0x123456: "40123456", 123456789: "475bcd15", 1 << 29: "60000000", limit - 1: "7fffffff", limit: "80000000",
	} {
		texts[at(n, 77)], texts[at(77, n)] = text+"4000004d", "4000004d"+text
		texts[at(n, -77)], texts[at(-77, n)] = text+"3fffffb3", "3fffffb3"+text
	}
	for c, text := range texts {
		p := triangle(c.X, c.Y)
		needSound(t, "a triangle", p)
		corners := map[api.Point]string{c: text, at(5, -1): "400000053fffffff", at(7, 9): "4000000740000009"}
		whole := ""
		for i, from := range p.Outer {
			whole += corners[from]
			needItem(t, "an edge", p, item("e"+corners[from]+corners[p.Outer[(i+1)%3]], "00000005"))
		}
		needItem(t, "a territory", p, item("o 00", whole))
		needItem(t, "a ring", p, item("p 00000005 01", whole))
		thereAndBack(t, "a coordinate", p)
	}
}

func TestIDsAsBytes(t *testing.T) {
	for id, text := range map[int]string{
		1: "00000001", 2: "00000002", 127: "0000007f", 128: "00000080", 255: "000000ff", 256: "00000100", 65535: "0000ffff", 65536: "00010000",
		0x01020304: "01020304", 0xffffff: "00ffffff", 0x1000000: "01000000", 123456789: "075bcd15", 1 << 29: "20000000", api.MaxID - 1: "3fffffff", api.MaxID: "40000000",
	} {
		p := alone(id, "A", 0, 0, 4, 0, 4, 4, 0, 4)
		needItem(t, "an owner", p, owned("p"+text+"00", "A"))
		needItem(t, "a ring", p, item("p"+text+"01", lowLeft+lowRight+highRight+highLeft))
		needItem(t, "an edge", p, item("e"+lowRight+highRight, text))
		needItem(t, "a cell", p, item("c 80 80"+text, ""))
		thereAndBack(t, "an ID", p)
	}
}

// Each byte that an owner may have: alone, as the first, amid and as the last one of as many as there may be.
func TestOwners(t *testing.T) {
	owners := []string{"", strings.Repeat(" ", 32), "o\x20", "p"}
	for b := byte(32); b <= 126; b++ {
		one := string(rune(b))
		owners = append(owners, one, one+strings.Repeat("x", 31), strings.Repeat("x", 15)+one+strings.Repeat("x", 16), strings.Repeat("x", 31)+one)
	}
	for _, owner := range owners {
		p := alone(1, owner, 0, 0, 4, 0, 4, 4, 0, 4)
		needItem(t, "an owner", p, api.Item{Key: unhex("70 00000001 00"), Value: []byte(owner)})
		thereAndBack(t, "an owner", p)
	}
}

// Rings of each number of corners: sixteen to an item, the rest of them in the last one, and no item without any.
func TestRingsOfAllLengths(t *testing.T) {
	for corners := 3; corners <= api.MaxPoints; corners++ {
		p := ofCorners(corners)
		needSound(t, "a ring", p)
		thereAndBack(t, fmt.Sprint(corners, " corners"), p)
		list, _ := record.Items(p)
		var outer, inner []int
		for _, one := range list {
			switch {
			case one.Key[0] == 'o':
				outer = append(outer, len(one.Value)/8)
			case one.Key[0] == 'p' && one.Key[5] > 0:
				inner = append(inner, len(one.Value)/8)
			}
		}
		want := slices.Repeat([]int{16}, corners/16)
		if corners%16 > 0 {
			want = append(want, corners%16)
		}
		if !slices.Equal(outer, want) || !slices.Equal(inner, want) {
			t.Errorf("%d corners are cut as %v, and %v, and not %v", corners, outer, inner, want)
		}
	}
}

// Fifteen, sixteen, seventeen, thirty-two and thirty-three corners: what items there are is written out, and the first and the last point of each.
func TestSixteenToAnItem(t *testing.T) {
	for corners, want := range map[int][]string{
		15:  {"o00 40000000-40000002 15", "p0000004d00 ", "p0000004d01 40000000-40000002 15"},
		16:  {"o00 40000000-40000002 16", "p0000004d00 ", "p0000004d01 40000000-40000002 16"},
		17:  {"o00 40000000-40000003 16", "o01 40000002-40000002 1", "p0000004d00 ", "p0000004d01 40000000-40000003 16", "p0000004d02 40000002-40000002 1"},
		32:  {"o00 40000000-40000012 16", "o01 40000011-40000002 16", "p0000004d00 ", "p0000004d01 40000000-40000012 16", "p0000004d02 40000011-40000002 16"},
		33:  {"o00 40000000-40000013 16", "o01 40000012-40000003 16", "o02 40000002-40000002 1", "p0000004d00 ", "p0000004d01 40000000-40000013 16", "p0000004d02 40000012-40000003 16", "p0000004d03 40000002-40000002 1"},
		128: {"o00 40000000-40000072 16", "o01 40000071-40000062 16", "o02 40000061-40000052 16", "o03 40000051-40000042 16", "o04 40000041-40000032 16", "o05 40000031-40000022 16", "o06 40000021-40000012 16", "o07 40000011-40000002 16", "p0000004d00 ", "p0000004d01 40000000-40000072 16", "p0000004d02 40000071-40000062 16", "p0000004d03 40000061-40000052 16", "p0000004d04 40000051-40000042 16", "p0000004d05 40000041-40000032 16", "p0000004d06 40000031-40000022 16", "p0000004d07 40000021-40000012 16", "p0000004d08 40000011-40000002 16"},
	} {
		list, _ := record.Items(ofCorners(corners))
		var got []string
		for _, one := range list {
			mark := one.Key[0]
			if mark != 'o' && mark != 'p' {
				continue
			}
			line := fmt.Sprintf("%c%x ", mark, one.Key[1:])
			if string(one.Value) != "Ann" {
				line += fmt.Sprintf("%x-%x %d", one.Value[:4], one.Value[len(one.Value)-8:len(one.Value)-4], len(one.Value)/8)
			}
			got = append(got, line)
		}
		if !slices.Equal(got, want) {
			t.Errorf("%d corners: %v, and not %v", corners, got, want)
		}
	}
}

// The cells of a parcel are those of its own ring, be its land in them or not, and each has the ID.
func TestCells(t *testing.T) {
	for _, c := range []struct {
		name  string
		plan  api.Plan
		cells []string
	}{
		{"within one", alone(7, "", 1, 1, 5, 1, 5, 5), []string{"80 80 00000007"}},
		{"from a cell's least corner to its last points", alone(7, "", 0, 0, size-1, 0, size-1, size-1, 0, size-1), []string{"80 80 00000007"}},
		{"up to the next one's least points", alone(7, "", 0, 0, size, 0, 0, size-1), []string{"80 80 00000007", "81 80 00000007"}},
		{"up to the one above", alone(7, "", 0, 0, size-1, 0, 0, size), []string{"80 80 00000007", "80 81 00000007"}},
		{"below 0", alone(7, "", -1, -1, 0, -1, -1, 0), []string{"7f 7f 00000007", "7f 80 00000007", "80 7f 00000007", "80 80 00000007"}},
		{"just below 0", alone(7, "", -size, -size, -1, -size, -1, -1), []string{"7f 7f 00000007"}},
		{"aslant, where it has no land", alone(7, "", 0, 0, 2*size, 2*size, 0, 1), []string{
			"80 80 00000007", "80 81 00000007", "80 82 00000007", "81 80 00000007", "81 81 00000007", "81 82 00000007", "82 80 00000007", "82 81 00000007", "82 82 00000007"}},
		{"at the plane's first corner", alone(7, "", -limit, -limit, -limit+1, -limit, -limit, -limit+1), []string{"7c 7c 00000007"}},
		{"at the plane's last corner", alone(7, "", limit-1, limit, limit, limit-1, limit, limit), []string{"83 83 00000007", "83 84 00000007", "84 83 00000007", "84 84 00000007"}},
		{"two in one", halves(), []string{"80 80 00000001", "80 80 00000002"}},
		{"two in two, and both in one", lay(of(-4, 1, 0, 1, 4, 1, 4, 5, 0, 5, -4, 5), parcel(9, "", -4, 1, 0, 1, 0, 5, -4, 5), parcel(10, "", 0, 1, 4, 1, 4, 5, 0, 5)),
			[]string{"7f 80 00000009", "80 80 00000009", "80 80 0000000a"}},
		{"two apart", lay(of(-4, 1, -1, 1, 4, 1, 4, 5, -1, 5, -4, 5), parcel(9, "", -1, 1, 4, 1, 4, 5, -1, 5), parcel(10, "", -4, 1, -1, 1, -1, 5, -4, 5)),
			[]string{"7f 80 00000009", "7f 80 0000000a", "80 80 00000009"}},
	} {
		needSound(t, c.name, c.plan)
		list, _ := record.Items(c.plan)
		var got, want []api.Item
		for _, one := range list {
			if one.Key[0] == 'c' {
				got = append(got, one)
			}
		}
		for _, key := range c.cells {
			want = append(want, item("c"+key, ""))
		}
		if !sameItems(got, want) {
			t.Errorf("%s: the cells are %s, and not %s", c.name, shown(got), shown(want))
		}
		thereAndBack(t, c.name, c.plan)
	}
}

// thereAndBack holds Items against the chapter's words, and Plan of those against the plan.
func thereAndBack(t *testing.T, what string, p api.Plan) {
	t.Helper()
	list := written(p)
	giveItems(t, what, p, list)
	give(t, what, list, p)
}

func TestThereAndBack(t *testing.T) {
	eachPlan(t, func(what string, p api.Plan) { thereAndBack(t, what, p) })
	eachOfChain(t, func(p api.Plan) { thereAndBack(t, fmt.Sprint(len(p.Parcels), " parcels"), p) })
}

func TestPlansAsLargeAsMayBe(t *testing.T) {
	for name, p := range large() {
		needSound(t, name, p)
		thereAndBack(t, name, p)
	}
	if n := corners(large()["as many corners"]); n != api.MaxCorners {
		t.Errorf("%d corners", n)
	}
}

// Keys rise as bytes, no two are one, and an item is such as a tree may have.
func TestOrder(t *testing.T) {
	rising := func(what string, p api.Plan) {
		list, _ := record.Items(p)
		last := []byte{}
		for _, one := range list {
			if bytes.Compare(last, one.Key) >= 0 || len(one.Key) > api.MaxKey || len(one.Value) > api.MaxValue {
				t.Errorf("%s: behind %x there is %s", what, last, shown([]api.Item{one}))
			}
			last = one.Key
		}
	}
	eachPlan(t, rising)
	for name, p := range large() {
		rising(name, p)
	}
}

func TestItemsOfPlansThatAreNotSound(t *testing.T) {
	for name, p := range unsound(t) {
		refusePlan(t, name, p)
	}
	refusePlan(t, "nothing", api.Plan{})
}
