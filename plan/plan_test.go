package plan

import (
	"fmt"
	"math"
	"slices"
	"testing"

	"merestone/api"
	"merestone/ring"
)

// The calls as the chapter lists them: this does not compile if one is another.
var (
	_ func(api.Plan) api.Errno                                          = Check
	_ func(api.Ring, int, string) (api.Plan, api.Errno)                 = Begin
	_ func(api.Plan, int) (api.Parcel, api.Errno)                       = Find
	_ func(api.Plan, api.Point) (bool, api.Errno)                       = Corner
	_ func(api.Plan, api.Edge) (int, api.Errno)                         = Left
	_ func(p api.Plan, x, y, parts int) (within, on []int, e api.Errno) = Cover
	_ func(p, q api.Plan) []int                                         = Changed
)

func isEmpty(p api.Plan) bool {
	return len(p.Outer) == 0 && len(p.Parcels) == 0
}

func TestChapterExample(t *testing.T) {
	square := of(0, 0, 4, 0, 4, 4, 0, 4)
	p, e := Begin(square, 3, "Ann")
	if e != api.OK || !equal(p, api.Plan{Outer: square, Parcels: []api.Parcel{{ID: 3, Ring: square, Owner: "Ann"}}}) {
		t.Fatalf("Begin: %v, error %d", p, e)
	}
	cover(t, p, 1, 1, 2, []int{3}, nil)
	cover(t, p, 0, 1, 2, nil, []int{3})
}

// P5.1: all calls but Changed and Begin have Check's error ahead of their own.
func TestCallsOfPlansThatAreNotSound(t *testing.T) {
	for _, c := range unsoundPlans() {
		first := api.Edge{}
		if len(c.plan.Outer) > 1 {
			first = api.Edge{A: c.plan.Outer[0], B: c.plan.Outer[1]}
		}
		for _, id := range []int{1, 99, 0, math.MinInt} {
			if got, e := Find(c.plan, id); got.ID != 0 || got.Ring != nil || got.Owner != "" || e != api.ErrForm {
				t.Errorf("Find(%d) of %s: %v, error %d", id, c.name, got, e)
			}
		}
		for _, p := range []api.Point{first.A, at(77, 77), at(limit+1, 0), at(0, math.MinInt)} {
			if got, e := Corner(c.plan, p); got || e != api.ErrForm {
				t.Errorf("Corner(%v) of %s: %v, error %d", p, c.name, got, e)
			}
		}
		for _, edge := range []api.Edge{first, turned(first), {}, {A: at(limit+1, 0)}} {
			if got, e := Left(c.plan, edge); got != 0 || e != api.ErrForm {
				t.Errorf("Left(%v) of %s: %d, error %d", edge, c.name, got, e)
			}
		}
		for _, parts := range []int{1, 2, 1024, 0, -1, 1025} {
			for _, x := range []int{0, limit * 2000, math.MinInt} {
				if within, on, e := Cover(c.plan, x, 0, parts); len(within) > 0 || len(on) > 0 || e != api.ErrForm {
					t.Errorf("Cover(%d, 0, %d) of %s: %v, %v, error %d", x, parts, c.name, within, on, e)
				}
			}
		}
	}
}

// P5.2: Begin

func TestBegin(t *testing.T) {
	for _, r := range []api.Ring{of(0, 0, 4, 0, 4, 4, 0, 4), of(0, 0, 2, 0, 4, 0, 3, 7), of(-limit, -limit, limit, -limit, limit, limit), zigzag(api.MaxPoints)} {
		begun, _ := ring.Norm(r)
		for i := range r {
			for _, id := range []int{1, 2, api.MaxID} {
				for _, owner := range []string{"", "Ann", " ~", long(32)} {
					p, e := Begin(slices.Concat(r[i:], r[:i]), id, owner)
					want := api.Plan{Outer: begun, Parcels: []api.Parcel{{ID: id, Ring: begun, Owner: owner}}}
					if e != api.OK || !equal(p, want) {
						t.Fatalf("Begin of %v from corner %d, %d, %q: %v, error %d", r, i, id, owner, p, e)
					}
				}
			}
		}
		if p, _ := Begin(r, 1, ""); Check(p) != api.OK {
			t.Errorf("Begin of %v is not sound", r)
		}
	}
}

func TestBeginRefused(t *testing.T) {
	rings := []struct {
		name string
		ring api.Ring
		e    api.Errno
	}{
		{"a sound ring", of(0, 0, 4, 0, 4, 4, 0, 4), api.OK},
		{"no corner", nil, api.ErrRing},
		{"to the right", of(0, 0, 0, 4, 4, 4, 4, 0), api.ErrRing},
		{"a bow", of(0, 0, 4, 4, 4, 0, 0, 4), api.ErrRing},
		{"a corner that is not Good", of(0, 0, limit+1, 0, 4, 4), api.ErrRange},
		{"a corner too many", zigzag(api.MaxPoints + 1), api.ErrLarge},
		{"a corner too many, and one that is not Good", append(zigzag(api.MaxPoints), at(limit+1, 0)), api.ErrLarge},
	}
	owners := map[string]api.Errno{
		"": api.OK, "Ann": api.OK, long(32): api.OK,
		long(33): api.ErrArg, long(5000): api.ErrArg, "\x1f": api.ErrArg, "\x7f": api.ErrArg, "An\nn": api.ErrArg, "é": api.ErrArg, "\xff": api.ErrArg,
	}
	ids := map[int]api.Errno{
		1: api.OK, api.MaxID: api.OK,
		0: api.ErrArg, -1: api.ErrArg, api.MaxID + 1: api.ErrArg, math.MinInt: api.ErrArg, math.MaxInt: api.ErrArg,
	}
	for _, r := range rings {
		for owner, e2 := range owners {
			for id, e3 := range ids {
				want := first(r.e, e2, e3)
				if p, e := Begin(r.ring, id, owner); e != want || e != api.OK && !isEmpty(p) {
					t.Errorf("Begin of %s, %d, %q: %v, error %d, want %d", r.name, id, owner, p, e, want)
				}
			}
		}
	}
}

// first answers what is told where several errors apply, in their order.
func first(errors ...api.Errno) api.Errno {
	for _, e := range errors {
		if e != api.OK {
			return e
		}
	}
	return api.OK
}

// P5.2: Find, Corner, Left

func TestFind(t *testing.T) {
	for _, c := range soundPlans() {
		there := map[int]bool{}
		for _, want := range c.plan.Parcels {
			there[want.ID] = true
			if got, e := Find(c.plan, want.ID); e != api.OK || !equalParcels(got, want) {
				t.Errorf("Find(%d) of %s: %v, error %d", want.ID, c.name, got, e)
			}
		}
		for _, id := range []int{0, -1, 1, 2, 3, 4, 65, 77, api.MaxID - 1, api.MaxID, api.MaxID + 1, math.MinInt, math.MaxInt} {
			if got, e := Find(c.plan, id); !there[id] && (e != api.ErrNone || !equalParcels(got, api.Parcel{})) {
				t.Errorf("Find(%d) of %s: %v, error %d", id, c.name, got, e)
			}
		}
	}
}

func TestCorner(t *testing.T) {
	p := crossroads()
	for point, want := range map[api.Point]bool{
		at(0, 0): true, at(4, 4): true, // of the territory
		at(2, 0): true, at(4, 2): true, // on a straight stretch of it
		at(2, 2): true,                   // within
		at(1, 0): false, at(4, 3): false, // on the territory's border
		at(2, 1): false,                  // on a border of two
		at(1, 1): false, at(3, 3): false, // within a parcel
		at(5, 5): false, at(-2, -2): false, at(limit, limit): false, at(-limit, -limit): false,
	} {
		if got, e := Corner(p, point); got != want || e != api.OK {
			t.Errorf("Corner(%v): %v, error %d, want %v", point, got, e, want)
		}
	}
	for _, n := range []int{limit + 1, -limit - 1, math.MaxInt, math.MinInt} {
		for _, point := range []api.Point{at(n, 2), at(2, n), at(n, n)} {
			if got, e := Corner(p, point); got || e != api.ErrRange {
				t.Errorf("Corner(%v): %v, error %d", point, got, e)
			}
		}
	}
}

// some answers the list, or of a long one some: the calls look at all of a plan each time.
func some[T any](list []T) []T {
	var part []T
	for i := 0; i < len(list); i += 1 + len(list)/20 {
		part = append(part, list[i])
	}
	return part
}

// Each corner of each ring is one, and no other point around the small ones.
func TestCornerOfAllPoints(t *testing.T) {
	for _, c := range soundPlans() {
		corners := map[api.Point]bool{}
		for _, r := range ringsOf(c.plan) {
			for _, p := range r {
				corners[p] = true
			}
		}
		points := some(slices.Concat(ringsOf(c.plan)...))
		if len(corners) < 100 {
			eachPoint(-1, 9, func(p api.Point) { points = append(points, p) })
		}
		for _, p := range points {
			if got, e := Corner(c.plan, p); got != corners[p] || e != api.OK {
				t.Fatalf("Corner(%v) of %s: %v, error %d, want %v", p, c.name, got, e, corners[p])
			}
		}
	}
}

func TestLeft(t *testing.T) {
	p := crossroads()
	for edge, want := range map[api.Edge]int{
		{A: at(2, 0), B: at(2, 2)}: 1, {A: at(2, 2), B: at(2, 0)}: 2, // a border of two, both ways round
		{A: at(0, 0), B: at(2, 0)}: 1, {A: at(4, 2), B: at(4, 4)}: 4, // the territory's
		{A: at(2, 0), B: at(0, 0)}: 0, {A: at(4, 4), B: at(4, 2)}: 0, // the territory's, turned round
		{A: at(0, 0), B: at(4, 0)}: 0, {A: at(2, 0), B: at(2, 4)}: 0, // two edges as one
		{A: at(2, 0), B: at(2, 1)}: 0, {A: at(1, 0), B: at(2, 0)}: 0, // a part of an edge
		{A: at(0, 0), B: at(2, 2)}:                 0, // corners, but no edge
		{A: at(2, 2), B: at(2, 2)}:                 0, // a point alone
		{A: at(7, 7), B: at(8, 8)}:                 0, // elsewhere
		{A: at(limit+1, 0), B: at(0, math.MinInt)}: 0, // not Good
	} {
		left(t, p, edge, want)
	}
}

// left wants 0 where there is no parcel.
func left(t *testing.T, p api.Plan, edge api.Edge, want int) {
	t.Helper()
	wantError := api.OK
	if want == 0 {
		wantError = api.ErrNone
	}
	if got, e := Left(p, edge); got != want || e != wantError {
		t.Fatalf("Left(%v): %d, error %d, want %d, error %d", edge, got, e, want, wantError)
	}
}

// Each edge is its parcel's; turned round it is whose it is, or nobody's on the territory's border.
func TestLeftOfAllEdges(t *testing.T) {
	for _, c := range soundPlans() {
		owner := map[api.Edge]int{}
		for _, parcel := range c.plan.Parcels {
			for i, a := range parcel.Ring {
				owner[api.Edge{A: a, B: parcel.Ring[(i+1)%len(parcel.Ring)]}] = parcel.ID
			}
		}
		for _, r := range ringsOf(c.plan)[1:] {
			for _, e := range some(edgesOf(r)) {
				other := api.Edge{A: e.B, B: e.A}
				left(t, c.plan, e, owner[e])
				left(t, c.plan, other, owner[other])
			}
			if len(r) > 60 {
				break
			}
		}
		for _, e := range some(edgesOf(c.plan.Outer)) {
			left(t, c.plan, e, owner[e])
			left(t, c.plan, api.Edge{A: e.B, B: e.A}, 0)
		}
	}
}

// P5.4

// expectedChanged looks for the first parcel of each ID that one of the plans has.
func expectedChanged(p, q api.Plan) []int {
	ids := map[int]bool{}
	for _, parcel := range slices.Concat(p.Parcels, q.Parcels) {
		ids[parcel.ID] = true
	}
	var list []int
	for id := range ids {
		one := slices.IndexFunc(p.Parcels, func(parcel api.Parcel) bool { return parcel.ID == id })
		other := slices.IndexFunc(q.Parcels, func(parcel api.Parcel) bool { return parcel.ID == id })
		if one < 0 || other < 0 || fmt.Sprintf("%q %v", p.Parcels[one].Owner, p.Parcels[one].Ring) != fmt.Sprintf("%q %v", q.Parcels[other].Owner, q.Parcels[other].Ring) {
			list = append(list, id)
		}
	}
	slices.Sort(list)
	return list
}

func changed(t *testing.T, what string, p, q api.Plan, want ...int) {
	t.Helper()
	if got := Changed(p, q); !slices.Equal(got, want) {
		t.Errorf("Changed, %s: %v, want %v", what, got, want)
	}
	if got := Changed(q, p); !slices.Equal(got, want) {
		t.Errorf("Changed, %s, turned: %v, want %v", what, got, want)
	}
}

// parcels makes a plan, sound or not, without a territory.
func parcels(list ...api.Parcel) api.Plan {
	return api.Plan{Parcels: list}
}

func TestChanged(t *testing.T) {
	ann := func(id int, corners ...int) api.Parcel { return api.Parcel{ID: id, Ring: of(corners...), Owner: "Ann"} }
	bob := func(id int, corners ...int) api.Parcel { return api.Parcel{ID: id, Ring: of(corners...), Owner: "Bob"} }
	three := parcels(ann(1, 0, 0, 1, 0, 1, 1), ann(2, 5, 5), ann(7))
	for _, c := range []struct {
		name string
		p, q api.Plan
		want []int
	}{
		{"nothing and nothing", api.Plan{}, api.Plan{}, nil},
		{"nothing and three", api.Plan{}, three, []int{1, 2, 7}},
		{"the same", three, copied(three), nil},
		{"one fewer", three, parcels(three.Parcels[0], three.Parcels[2]), []int{2}},
		{"one more", three, parcels(append(slices.Clone(three.Parcels), ann(9))...), []int{9}},
		{"another owner", three, parcels(three.Parcels[0], three.Parcels[1], bob(7)), []int{7}},
		{"another ring", three, parcels(ann(1, 0, 0, 2, 0, 1, 1), three.Parcels[1], three.Parcels[2]), []int{1}},
		{"a corner more", three, parcels(ann(1, 0, 0, 1, 0, 1, 1, 0, 1), three.Parcels[1], three.Parcels[2]), []int{1}},
		{"a corner fewer", three, parcels(ann(1, 0, 0, 1, 0), three.Parcels[1], three.Parcels[2]), []int{1}},
		{"the ring begun elsewhere", three, parcels(ann(1, 1, 0, 1, 1, 0, 0), three.Parcels[1], three.Parcels[2]), []int{1}},
		{"another ring and another owner", three, parcels(bob(1), three.Parcels[1], three.Parcels[2]), []int{1}},
		{"another ID", three, parcels(three.Parcels[0], three.Parcels[1], ann(8)), []int{7, 8}},
		{"all others", three, parcels(ann(3), ann(4)), []int{1, 2, 3, 4, 7}},
		{"another order", three, parcels(three.Parcels[2], three.Parcels[0], three.Parcels[1]), nil},
		{"another territory", three, api.Plan{Outer: of(0, 0, 9, 0, 9, 9), Parcels: three.Parcels}, nil},
		{"an empty ring and none", parcels(api.Parcel{ID: 5}), parcels(api.Parcel{ID: 5, Ring: api.Ring{}}), nil},
		{"the same ID twice, the second another", parcels(ann(5), ann(5, 1, 1)), parcels(ann(5)), nil},
		{"the same ID twice, the first another", parcels(ann(5, 1, 1), ann(5)), parcels(ann(5)), []int{5}},
		{"the same ID twice, in both", parcels(ann(5), ann(5, 1, 1)), parcels(ann(5), bob(5)), nil},
		{"the same ID twice, in one alone", parcels(ann(5), ann(5, 1, 1)), parcels(ann(6)), []int{5, 6}},
		{"the same ID thrice, the last two the same", parcels(bob(5), ann(5), ann(5)), parcels(ann(5)), []int{5}},
		{"IDs at their ends", parcels(ann(math.MaxInt), ann(0), ann(math.MinInt)), parcels(ann(-1), bob(0)), []int{math.MinInt, -1, 0, math.MaxInt}},
		{"an owner that is none", parcels(api.Parcel{Owner: "\x00"}), parcels(api.Parcel{Owner: "\x00\xff"}), []int{0}},
		{"points that are not Good", parcels(ann(1, math.MaxInt, math.MinInt)), parcels(ann(1, math.MinInt, math.MaxInt)), []int{1}},
	} {
		changed(t, c.name, c.p, c.q, c.want...)
		if want := expectedChanged(c.p, c.q); !slices.Equal(c.want, want) {
			t.Errorf("%s: the other reckoning has %v", c.name, want)
		}
	}
}

func TestChangedOfAllPairs(t *testing.T) {
	var plans []api.Plan
	for _, c := range append(soundPlans(), unsoundPlans()...) {
		plans = append(plans, c.plan)
	}
	for _, p := range plans {
		for _, q := range plans {
			changed(t, "each and each", p, q, expectedChanged(p, q)...)
		}
	}
}

// R4

// ask calls all there is, with what is answered and with what is refused, and spoils each answer.
func ask(p, q api.Plan) {
	Check(p)
	for _, id := range []int{1, 2, 99} {
		parcel, _ := Find(p, id)
		spoilRing(parcel.Ring)
		begun, _ := Begin(p.Outer, id, "Ann")
		spoil(begun)
	}
	for _, point := range []api.Point{at(0, 0), at(3, 3), at(limit+1, 0)} {
		Corner(p, point)
		Left(p, api.Edge{A: point, B: at(2, 0)})
	}
	for _, x := range []int{0, 1, 2, math.MaxInt} {
		within, on, _ := Cover(p, x, 1, 1)
		spoilIDs(within)
		spoilIDs(on)
	}
	spoilIDs(Changed(p, q))
	spoilIDs(Changed(q, p))
}

func spoilRing(r api.Ring) {
	for i := range r[:cap(r)] {
		r[:cap(r)][i] = at(-77, -77)
	}
}

func spoilIDs(list []int) {
	for i := range list[:cap(list)] {
		list[:cap(list)][i] = -77
	}
}

func spoil(p api.Plan) {
	spoilRing(p.Outer)
	all := p.Parcels[:cap(p.Parcels)]
	for i := range all {
		spoilRing(all[i].Ring)
		all[i] = api.Parcel{ID: -77, Owner: "spoilt"}
	}
}

// roomy copies p into lists with spare room, which is filled, and answers all that these lists have room for, as a plan of its own.
func roomy(p api.Plan) (lists, whole api.Plan) {
	fill := func(r api.Ring) api.Ring { return append(slices.Clone(r), of(7, 7, 8, 8, 9, 9)...) }
	whole.Outer = fill(p.Outer)
	lists.Outer = whole.Outer[:len(p.Outer)]
	for _, parcel := range p.Parcels {
		full := fill(parcel.Ring)
		whole.Parcels = append(whole.Parcels, api.Parcel{ID: parcel.ID, Ring: full, Owner: parcel.Owner})
		lists.Parcels = append(lists.Parcels, api.Parcel{ID: parcel.ID, Ring: full[:len(parcel.Ring)], Owner: parcel.Owner})
	}
	count := len(p.Parcels)
	lists.Parcels = append(lists.Parcels, api.Parcel{ID: 5}, api.Parcel{ID: 6, Owner: "spare"})
	whole.Parcels = append(whole.Parcels, lists.Parcels[count:]...)
	lists.Parcels = lists.Parcels[:count]
	return lists, whole
}

func TestArgumentsStay(t *testing.T) {
	other, otherWhole := roomy(crossroads())
	otherWas := copied(otherWhole)
	for _, c := range append(soundPlans(), unsoundPlans()...) {
		p, whole := roomy(c.plan)
		was := copied(whole)
		ask(p, other)
		ask(p, other)
		spare := p.Parcels[:len(p.Parcels)+2]
		if !equal(whole, was) || !equal(api.Plan{Parcels: spare}, api.Plan{Parcels: resliced(was.Parcels, p.Parcels)}) {
			t.Errorf("%s is another plan now", c.name)
		}
		if !equal(otherWhole, otherWas) {
			t.Fatalf("%s changed the plan beside it", c.name)
		}
	}
}

// resliced answers the first list's parcels with rings as long as the second's have, where it has one.
func resliced(list, as []api.Parcel) []api.Parcel {
	list = slices.Clone(list)
	for i := range as {
		list[i].Ring = list[i].Ring[:len(as[i].Ring)]
	}
	return list
}

func TestAnswersShareNothing(t *testing.T) {
	square := of(0, 0, 4, 0, 4, 4, 0, 4)
	one, _ := Begin(square, 1, "Ann")
	two, _ := Begin(square, 1, "Ann")
	spoilRing(one.Outer)
	if !slices.Equal(one.Parcels[0].Ring, square) {
		t.Errorf("Begin's parcel became %v", one.Parcels[0].Ring)
	}
	spoil(one)
	if !slices.Equal(square, of(0, 0, 4, 0, 4, 4, 0, 4)) || !slices.Equal(two.Outer, square) || !slices.Equal(two.Parcels[0].Ring, square) {
		t.Errorf("Begin's other answer became %v", two)
	}
	p := crossroads()
	three, _ := Find(p, 1)
	four, _ := Find(p, 1)
	spoilRing(three.Ring)
	if !equal(p, crossroads()) || !equalParcels(four, p.Parcels[0]) {
		t.Errorf("Find's other answer became %v", four)
	}
	within, on, _ := Cover(p, 1, 1, 1)
	spoilIDs(within)
	spoilIDs(on)
	cover(t, p, 1, 1, 1, []int{1}, nil)
	_, on, _ = Cover(p, 2, 2, 1)
	spoilIDs(on)
	cover(t, p, 2, 2, 1, nil, []int{1, 2, 3, 4})
	spoilIDs(Changed(p, api.Plan{}))
	changed(t, "again", p, api.Plan{}, 1, 2, 3, 4)
}
