package gjson_test

import (
	"fmt"
	"slices"
	"strings"
	"testing"

	"merestone/api"
)

// Parcels

func TestParcelsInAnyOrder(t *testing.T) {
	for name, p := range map[string]api.Plan{"crossroads": crossroads(), "gate": gate(), "halves": halves()} {
		for _, order := range orders(len(p.Parcels)) {
			other := lay(p.Outer)
			for _, i := range order {
				other.Parcels = append(other.Parcels, p.Parcels[i])
			}
			give(t, fmt.Sprint(name, " in order ", order), textOf(other), p)
		}
	}
	eachOfChain(t, func(p api.Plan) {
		other := copied(p)
		slices.Reverse(other.Parcels)
		give(t, "the other way round", textOf(other), p)
		slices.SortStableFunc(other.Parcels, func(a, b api.Parcel) int { return a.ID%7 - b.ID%7 })
		give(t, "mixed", textOf(other), p)
	})
}

// IDs of other lengths: by their worth, and not as texts, they rise.
func TestIDsInOrder(t *testing.T) {
	for _, list := range [][]int{{9, 10, 11, 100}, {2, 11, 101, 1000}, {1, 10, 1073741823, 1073741824}, {99999999, 100000000, 999999999, 1000000000}} {
		p := crossroads()
		for i, id := range list {
			p.Parcels[i].ID = id
		}
		give(t, "IDs in order", textOf(p), p)
		other := copied(p)
		slices.Reverse(other.Parcels)
		give(t, "IDs that fall", textOf(other), p)
	}
}

// An ID twice, beside the first one or away from it, is ErrThere, also if all else of the parcels is the same.
func TestIDsTwice(t *testing.T) {
	for i := range 4 {
		for j := range 4 {
			if i != j {
				p := crossroads()
				p.Parcels[j].ID = p.Parcels[i].ID
				refuse(t, "an ID twice", textOf(p), api.ErrThere)
				p.Parcels[j] = p.Parcels[i]
				refuse(t, "a parcel in another's place", textOf(p), api.ErrThere)
				p = crossroads()
				p.Parcels = slices.Insert(p.Parcels, i, p.Parcels[j])
				refuse(t, "a parcel once more", textOf(p), api.ErrThere)
			}
		}
	}
	p := crossroads()
	for i := range p.Parcels {
		p.Parcels[i].ID = 5
	}
	refuse(t, "one ID alone", textOf(p), api.ErrThere)
	p.Parcels[0].ID, p.Parcels[2].ID = 4, 4
	refuse(t, "two IDs twice", textOf(p), api.ErrThere)
	refuse(t, "one parcel twice", textOf(lay(square().Outer, square().Parcels[0], square().Parcels[0])), api.ErrThere)
}

func TestParcelsThatAreLacking(t *testing.T) {
	eachPlan(t, func(what string, p api.Plan) {
		for i := range p.Parcels {
			some := copied(p)
			some.Parcels = slices.Delete(some.Parcels, i, i+1)
			refuse(t, what+", a parcel lacking", textOf(some), api.ErrForm)
			if len(p.Parcels) > 1 {
				refuse(t, what+", one parcel alone", textOf(lay(p.Outer, p.Parcels[i])), api.ErrForm)
			}
		}
		refuse(t, what+", no parcels", textOf(lay(p.Outer)), api.ErrForm)
	})
}

// Parts that are all sound, and no plan together.
func TestPlansThatDoNotFit(t *testing.T) {
	for name, change := range map[string]func(p *api.Plan){
		"a corner that the neighbours lack":    func(p *api.Plan) { p.Parcels[0].Ring = of(0, 0, 2, 0, 2, 1, 2, 2, 0, 2) },
		"a corner that the territory lacks":    func(p *api.Plan) { p.Outer = of(0, 0, 4, 0, 4, 2, 4, 4, 2, 4, 0, 4, 0, 2) },
		"a corner of the territory alone":      func(p *api.Plan) { p.Outer = of(0, 0, 1, 0, 2, 0, 4, 0, 4, 2, 4, 4, 2, 4, 0, 4, 0, 2) },
		"a gap":                                func(p *api.Plan) { p.Parcels[0].Ring = of(0, 0, 2, 0, 1, 1, 0, 2) },
		"one over another":                     func(p *api.Plan) { p.Parcels[0].Ring = of(0, 0, 2, 0, 3, 3, 0, 2) },
		"one elsewhere":                        func(p *api.Plan) { p.Parcels[0].Ring = of(10, 0, 12, 0, 12, 2, 10, 2) },
		"one on another":                       func(p *api.Plan) { p.Parcels[0].Ring = of(2, 0, 4, 0, 4, 2, 2, 2) },
		"a territory that is larger":           func(p *api.Plan) { p.Outer = of(-1, -1, 5, -1, 5, 5, -1, 5) },
		"a territory that is smaller":          func(p *api.Plan) { p.Outer = of(0, 0, 4, 0, 4, 2, 2, 2, 2, 4, 0, 4, 0, 2) },
		"an owner that is too long":            func(p *api.Plan) { p.Parcels[3].Owner = strings.Repeat("x", 33) },
		"an owner with a byte that may not be": func(p *api.Plan) { p.Parcels[0].Owner = "\x7f" },
	} {
		p := copied(crossroads())
		change(&p)
		for i := range p.Parcels {
			p.Parcels[i].Ring = least(p.Parcels[i].Ring)
		}
		refuse(t, name, textOf(p), api.ErrForm)
	}
}

// Rings that are none, in the territory or in any feature, whatever is wrong with them.
func TestRingsThatAreNotSound(t *testing.T) {
	for _, r := range []api.Ring{
		of(0, 0, 4, 4, 4, 0, 0, 4), of(0, 0, 4, 0, 0, 4, 4, 4), of(0, 0, 0, 4, 4, 4, 4, 0), of(0, 0, 2, 0, 4, 0), of(0, 0, 4, 0, 4, 4, 4, 4, 0, 4), of(0, 0, 4, 0, 4, 0, 4, 4),
		of(0, 0, 4, 0, 2, 0, 2, 4), of(0, 0, 4, 0, 4, 4, 2, 0, 0, 4), of(0, 0, 4, 0, 2, 2, 4, 4, 0, 4, 2, 2), of(0, 0, 0, 0, 0, 0), of(0, 0, 4, 0, 4, 4, 4, 0),
	} {
		p := copied(crossroads())
		p.Outer = r
		refuse(t, "a territory that is not sound", textOf(p), api.ErrRing)
		for i := range 4 {
			p = copied(crossroads())
			p.Parcels[i].Ring = r
			refuse(t, "a ring that is not sound", textOf(p), api.ErrRing)
		}
	}
}

// Which error

// A mishap is something wrong with a text, or with the tree of crossroads.
type mishap struct {
	fault api.Errno
	name  string
	tree  func(v *api.Value)
	text  func(text string) string
}

func inTree(fault api.Errno, name string, change func(v *api.Value)) mishap {
	return mishap{fault, name, change, nil}
}

func inText(fault api.Errno, name string, change func(text string) string) mishap {
	return mishap{fault, name, nil, change}
}

// put replaces a part; turn turns a ring's points round.
func put(other api.Value, steps ...any) func(v *api.Value) {
	return func(v *api.Value) { *node(v, steps...) = other }
}

func turn(steps ...any) func(v *api.Value) {
	return func(v *api.Value) { slices.Reverse(node(v, append(steps, "coordinates", 0)...).List) }
}

func add(key string, value api.Value, steps ...any) func(v *api.Value) {
	return func(v *api.Value) { *node(v, steps...) = with(*node(v, steps...), key, value) }
}

// mishaps are of one error after the other, as they are looked for. Those of one error can be together, and with all others.
func mishaps() [][]mishap {
	nested := null()
	for range api.MaxNest {
		nested = list(nested)
	}
	return [][]mishap{
		{
			inText(api.ErrLarge, "more than MaxText", func(text string) string { return text + strings.Repeat(" ", api.MaxText+1-len(text)) }),
		}, {
			inText(api.ErrText, "something behind", func(text string) string { return text + "x" }),
			inText(api.ErrText, "cut off", func(text string) string { return text[:len(text)-1] }),
			inText(api.ErrText, "a number that is none", func(text string) string { return strings.Replace(text, "[4,2]", "[4,02]", 1) }),
		}, {
			inTree(api.ErrForm, "the whole's type", put(said("feature"), "type")),
			inTree(api.ErrForm, "a member twice in the whole", add("features", list())),
			inTree(api.ErrForm, "the first ring's last point", put(list(number("0"), number("-1")), "territory", "coordinates", 0, 8)),
			inTree(api.ErrForm, "an ID with a point", put(number("2.0"), "features", 0, "id")),
			inTree(api.ErrForm, "no owner", put(object(), "features", 1, "properties")),
			inTree(api.ErrForm, "another member twice in the last feature", func(v *api.Value) {
				add("x", null(), "features", 3)(v)
				add("x", null(), "features", 3)(v)
			}),
			inTree(api.ErrForm, "the last number", put(number("-0"), "features", 3, "geometry", "coordinates", 0, 3, 0)),
			inTree(api.ErrForm, "a point of three numbers", put(list(number("2"), number("4"), number("0")), "features", 3, "geometry", "coordinates", 0, 3)),
		}, {
			inTree(api.ErrRange, "the territory's second corner", put(number("1073741825"), "territory", "coordinates", 0, 1, 0)),
			inTree(api.ErrRange, "a corner of the last one", put(number("-99999999999999999999"), "features", 3, "geometry", "coordinates", 0, 1, 1)),
			inTree(api.ErrRange, "the first ID", put(number("0"), "features", 0, "id")),
			inTree(api.ErrRange, "the last ID", put(number("1073741825"), "features", 3, "id")),
			inTree(api.ErrRange, "an ID that no int is", put(number("18446744073709551617"), "features", 1, "id")),
		}, {
			inTree(api.ErrRing, "the territory turned round", turn("territory")),
			inTree(api.ErrRing, "the first one turned round", turn("features", 0, "geometry")),
			inTree(api.ErrRing, "the last one turned round", turn("features", 3, "geometry")),
		}, {
			inTree(api.ErrThere, "the third one's ID", put(number("4"), "features", 2, "id")),
			inTree(api.ErrThere, "a parcel once more", func(v *api.Value) {
				features := node(v, "features")
				features.List = append(features.List, deep(features.List[1]))
			}),
		}, {
			inTree(api.ErrForm, "an owner that may not be", put(said("\n"), "features", 2, "properties", "owner")),
			inTree(api.ErrForm, "an owner that is too long", put(said(strings.Repeat("x", 33)), "features", 1, "properties", "owner")),
			inTree(api.ErrForm, "a parcel at another place", put(points(8, 8, 9, 8, 9, 9, 8, 8), "features", 2, "geometry", "coordinates", 0)),
			inTree(api.ErrForm, "a parcel too many", func(v *api.Value) {
				more := treeOf(alone(77, "A", 8, 8, 9, 8, 9, 9))
				features := node(v, "features")
				features.List = append(features.List, *node(&more, "features", 0))
			}),
		},
	}
}

// happened is the text of crossroads with these mishaps; the last ones are made first, so that each step leads where it should.
func happened(list ...mishap) string {
	v := treeOf(crossroads())
	for _, m := range slices.Backward(list) {
		if m.tree != nil {
			m.tree(&v)
		}
	}
	text := show(v)
	for _, m := range slices.Backward(list) {
		if m.text != nil {
			text = m.text(text)
		}
	}
	return text
}

func TestEachError(t *testing.T) {
	give(t, "no mishap", happened(), crossroads())
	for _, kind := range mishaps() {
		for _, m := range kind {
			refuse(t, m.name, happened(m), m.fault)
		}
	}
}

// Of any two, and of any one of each kind, be it there or not, the first one's error is answered.
func TestWhichErrorIsFirst(t *testing.T) {
	var walk func(kinds [][]mishap, chosen []mishap)
	walk = func(kinds [][]mishap, chosen []mishap) {
		if len(kinds) > 0 {
			walk(kinds[1:], chosen)
			for _, m := range kinds[0] {
				walk(kinds[1:], append(slices.Clone(chosen), m))
			}
			return
		}
		if len(chosen) > 1 && !t.Failed() {
			var names []string
			for _, m := range chosen {
				names = append(names, m.name)
			}
			refuse(t, strings.Join(names, "; "), happened(chosen...), chosen[0].fault)
		}
	}
	walk(mishaps()[1:], nil)
	for _, m := range slices.Concat(mishaps()[1:]...) {
		refuse(t, m.name+", too long", happened(mishaps()[0][0], m), api.ErrLarge)
	}
}

// Two of one kind are that kind's.
func TestTwoOfOneError(t *testing.T) {
	for _, kind := range mishaps()[2:6] {
		for i, one := range kind {
			for _, other := range kind[:i] {
				refuse(t, one.name+"; "+other.name, happened(one, other), one.fault)
			}
		}
	}
}

// The parser's errors, at the places where it finds them first.
func TestErrorsOfTheParser(t *testing.T) {
	blanks := strings.Repeat(" ", api.MaxText-len(example))
	give(t, "as long as may be", example+blanks, square())
	give(t, "as long as may be", blanks+example, square())
	refuse(t, "one byte more", example+blanks+" ", api.ErrLarge)
	refuse(t, "one byte more", " "+blanks+example, api.ErrLarge)
	for _, text := range []string{"", " ", "\x00", "\xef\xbb\xbf" + example, example + example, example + "}", example[1:], "{", "[", "nul", "[01]", `{"type"}`, `{type:1}`, "'", "{'type':1}", example + ",", "\"\xff\"", strings.Replace(example, ",", ",,", 1), strings.Replace(example, ":", "=", 1)} {
		refuse(t, "no text", text, api.ErrText)
	}
	for i := range example {
		refuse(t, "cut off", example[:i], api.ErrText)
	}
	deepest := func(deep int) string {
		return `{"x":` + strings.Repeat("[", deep-1) + strings.Repeat("]", deep-1) + "," + example[1:]
	}
	give(t, "as deep as may be", deepest(api.MaxNest), square())
	refuse(t, "one deeper", deepest(api.MaxNest+1), api.ErrLarge)
	refuse(t, "very deep", strings.Repeat("[", 10000), api.ErrLarge)
	refuse(t, "deep, and then no text", deepest(api.MaxNest+1)+"x", api.ErrLarge)
	refuse(t, "no text, and then deep", "x"+deepest(api.MaxNest+1), api.ErrText)
	refuse(t, "deep, and no whole", strings.Repeat("[", api.MaxNest)+strings.Repeat("]", api.MaxNest), api.ErrForm)
}
