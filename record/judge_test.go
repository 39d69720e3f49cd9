package record_test

import (
	"bytes"
	"cmp"
	"encoding/hex"
	"fmt"
	"maps"
	"math/rand/v2"
	"slices"
	"strings"
	"testing"

	"merestone/api"
	"merestone/plan"
	"merestone/record"
)

// The calls as the chapter lists them: this does not compile if one is another.
var (
	_ func(api.Plan) ([]api.Item, api.Errno)                     = record.Items
	_ func([]api.Item) (api.Plan, api.Errno)                     = record.Plan
	_ func(old, next []api.Item) (put []api.Item, gone [][]byte) = record.Delta
)

// Bytes are written out as hexadecimal digits, with blanks wherever they help; a key has its letter ahead.

func unhex(digits string) []byte {
	b, err := hex.DecodeString(strings.ReplaceAll(digits, " ", ""))
	if err != nil {
		panic(err)
	}
	return b
}

func item(key, value string) api.Item {
	return api.Item{Key: append([]byte{key[0]}, unhex(key[1:])...), Value: unhex(value)}
}

// owned is an item of an owner.
func owned(key, owner string) api.Item {
	return api.Item{Key: item(key, "").Key, Value: []byte(owner)}
}

// Reckonings of another kind

// digits is a number's last four bytes.
func digits(n int) string {
	return fmt.Sprintf("%08x", uint32(n))
}

func place(p api.Point) string {
	return digits(p.X+1<<30) + digits(p.Y+1<<30)
}

// written answers the items of any plan, sound or not, by the chapter's words: point for point as texts, put in order last.
func written(p api.Plan) []api.Item {
	values := map[string]string{}
	for i, c := range p.Outer {
		values[fmt.Sprintf("6f%02x", i/16%256)] += place(c)
	}
	for _, one := range p.Parcels {
		values["70"+digits(one.ID)+"00"] = hex.EncodeToString([]byte(one.Owner))
		for i, c := range one.Ring {
			values[fmt.Sprintf("70%s%02x", digits(one.ID), (1+i/16)%256)] += place(c)
			next := append(slices.Clone(one.Ring), one.Ring[0])[i+1]
			values["65"+place(c)+place(next)] = digits(one.ID)
		}
		for _, cell := range cellsOf(one.Ring) {
			values[fmt.Sprintf("63%02x%02x%s", 128+cell.X, 128+cell.Y, digits(one.ID))] = ""
		}
	}
	var list []api.Item
	for _, key := range slices.Sorted(maps.Keys(values)) {
		list = append(list, api.Item{Key: unhex(key), Value: unhex(values[key])})
	}
	return list
}

// cellsOf answers each cell of the plane that has corners on it or beyond it on both of its sides, in both ways across the plane.
func cellsOf(r api.Ring) []api.Cell {
	some := func(fit func(api.Point) bool) bool { return slices.ContainsFunc(r, fit) }
	var list []api.Cell
	for x := -4; x <= 4; x++ {
		for y := -4; y <= 4; y++ {
			if some(func(p api.Point) bool { return p.X < (x+1)*size }) && some(func(p api.Point) bool { return p.X >= x*size }) &&
				some(func(p api.Point) bool { return p.Y < (y+1)*size }) && some(func(p api.Point) bool { return p.Y >= y*size }) {
				list = append(list, api.Cell{X: x, Y: y})
			}
		}
	}
	return list
}

// judged answers the plan whose items these are, put together from its edges and its owners alone; nothing, if there is none such.
func judged(list []api.Item) (api.Plan, api.Errno) {
	steps := map[int]map[api.Point]api.Point{}
	way := map[api.Point]api.Point{}
	var p api.Plan
	for _, one := range list {
		switch text := hex.EncodeToString(one.Key); {
		case len(text) == 34 && text[:2] == "65" && len(one.Value) == 4:
			id, a, b := number(hex.EncodeToString(one.Value)), placed(text[2:18]), placed(text[18:])
			if steps[id] == nil {
				steps[id] = map[api.Point]api.Point{}
			}
			steps[id][a] = b
		case len(text) == 12 && text[:2] == "70" && text[10:] == "00":
			p.Parcels = append(p.Parcels, api.Parcel{ID: number(text[2:10]), Owner: string(one.Value)})
		}
	}
	for _, its := range steps {
		for a, b := range its {
			if !slices.ContainsFunc(slices.Collect(maps.Values(steps)), func(other map[api.Point]api.Point) bool { return other[b] == a && has(other, b) }) {
				way[a] = b
			}
		}
	}
	slices.SortFunc(p.Parcels, func(a, b api.Parcel) int { return cmp.Compare(a.ID, b.ID) })
	p.Outer = walked(way)
	for i := range p.Parcels {
		p.Parcels[i].Ring = walked(steps[p.Parcels[i].ID])
	}
	if plan.Check(p) != api.OK || !slices.EqualFunc(written(p), inOrder(list), sameItem) {
		return api.Plan{}, api.ErrForm
	}
	return p, api.OK
}

func has(steps map[api.Point]api.Point, p api.Point) bool {
	_, there := steps[p]
	return there
}

// walked answers the way that steps lead, from the least corner on till it is there again, or there is no step.
func walked(steps map[api.Point]api.Point) api.Ring {
	if len(steps) == 0 {
		return nil
	}
	r := least(slices.Collect(maps.Keys(steps)))[:1]
	for next := steps[r[0]]; next != r[0] && has(steps, next) && len(r) < 200; next = steps[next] {
		r = append(r, next)
	}
	return r
}

func number(digits string) int {
	n := 0
	fmt.Sscanf(digits, "%x", &n)
	return n
}

func placed(digits string) api.Point {
	return at(number(digits[:8])-1<<30, number(digits[8:])-1<<30)
}

func sameItem(a, b api.Item) bool {
	return bytes.Equal(a.Key, b.Key) && bytes.Equal(a.Value, b.Value)
}

func sameItems(a, b []api.Item) bool {
	return slices.EqualFunc(a, b, sameItem)
}

func inOrder(list []api.Item) []api.Item {
	sorted := slices.Clone(list)
	slices.SortStableFunc(sorted, func(a, b api.Item) int { return strings.Compare(string(a.Key), string(b.Key)) })
	return sorted
}

func shuffled(list []api.Item, random *rand.Rand) []api.Item {
	other := slices.Clone(list)
	random.Shuffle(len(other), func(i, j int) { other[i], other[j] = other[j], other[i] })
	return other
}

// deep copies a list of items with all that its items have.
func deep(list []api.Item) []api.Item {
	var other []api.Item
	for _, one := range list {
		other = append(other, api.Item{Key: bytes.Clone(one.Key), Value: bytes.Clone(one.Value)})
	}
	return other
}

func shown(list []api.Item) string {
	var lines []string
	for _, one := range list {
		lines = append(lines, fmt.Sprintf("%x: %x", one.Key, one.Value))
	}
	return brief(lines)
}

// giveItems holds Items of a plan against the list that it has to be.
func giveItems(t *testing.T, what string, p api.Plan, want []api.Item) {
	t.Helper()
	list, e := record.Items(p)
	if e != api.OK {
		t.Errorf("%s: Items of %s is error %d", what, brief(p), e)
	}
	if len(list) != len(want) {
		t.Errorf("%s: %d items, and not %d", what, len(list), len(want))
	}
	for i := range min(len(list), len(want)) {
		if !sameItem(list[i], want[i]) {
			t.Errorf("%s: item %d is %s, and not %s", what, i, shown(list[i:i+1]), shown(want[i:i+1]))
			return
		}
	}
}

func refusePlan(t *testing.T, what string, p api.Plan) {
	t.Helper()
	if list, e := record.Items(p); len(list) != 0 || e != api.ErrForm {
		t.Errorf("%s: Items of %s is %s, error %d", what, brief(p), shown(list), e)
	}
}

// give holds Plan of a list against the plan that it has to tell.
func give(t *testing.T, what string, list []api.Item, want api.Plan) {
	t.Helper()
	if p, e := record.Plan(list); !equal(p, want) || e != api.OK {
		t.Errorf("%s: Plan of %s is %s, error %d, and not %s", what, shown(list), brief(p), e, brief(want))
	}
}

// refuse asks for ErrForm of Plan, and for nothing else beside it.
func refuse(t *testing.T, what string, list []api.Item) {
	t.Helper()
	if p, e := record.Plan(list); !isNothing(p) || e != api.ErrForm {
		t.Errorf("%s: Plan of %s is %s, error %d", what, shown(list), brief(p), e)
	}
}

// hold holds Plan of a list against the judge.
func hold(t *testing.T, what string, list []api.Item) api.Errno {
	t.Helper()
	want, fault := judged(list)
	if p, e := record.Plan(list); !equal(p, want) || e != fault {
		t.Errorf("%s: Plan of %s is %s, error %d, and not %s, %d", what, shown(list), brief(p), e, brief(want), fault)
	}
	return fault
}
