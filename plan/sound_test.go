package plan

import (
	"slices"
	"strings"
	"testing"

	"merestone/api"
	"merestone/ring"
	"merestone/wide"
)

// The sentences of 'A plan is sound' that a plan may break, in the chapter's order.
const (
	count   = "from 1 to MaxParcels parcels"
	ids     = "by rising ID, each from 1 to MaxID"
	owners  = "each with an owner"
	sound   = "Outer and all Rings are sound"
	begins  = "and begin at their least corner"
	corners = "at most MaxCorners corners together"
	lone    = "each edge of a parcel is one of Outer, or another's the other way round"
	twice   = "no edge is one of two parcels"
	bare    = "each edge of Outer is one of a parcel"
	onEdge  = "no corner lies on an edge but at its ends"
	crosses = "no two edges cross"
	areas   = "the areas are that of Outer"
)

// broken answers the sentences that p breaks, each looked at by itself and word by word, by going through all corners and edges. It is for coordinates of up to a million.
func broken(p api.Plan) []string {
	var list []string
	for _, sentence := range []struct {
		name  string
		holds bool
	}{
		{count, len(p.Parcels) >= 1 && len(p.Parcels) <= 64},
		{ids, idsHold(p.Parcels)},
		{owners, ownersHold(p.Parcels)},
		{sound, eachRing(p, func(r api.Ring) bool { return ring.Check(r) == api.OK })},
		{begins, eachRing(p, func(r api.Ring) bool { return len(r) == 0 || slices.Equal(least(r), r) })},
		{corners, len(slices.Concat(everyRing(p)...)) <= 1024},
		{lone, noneAlone(p)},
		{twice, noneTwice(p)},
		{bare, noneBare(p)},
		{onEdge, noneOnEdges(p)},
		{crosses, noneCross(p)},
		{areas, areasHold(p)},
	} {
		if !sentence.holds {
			list = append(list, sentence.name)
		}
	}
	return list
}

func everyRing(p api.Plan) []api.Ring {
	list := []api.Ring{p.Outer}
	for _, parcel := range p.Parcels {
		list = append(list, parcel.Ring)
	}
	return list
}

func eachRing(p api.Plan, holds func(api.Ring) bool) bool {
	return !slices.ContainsFunc(everyRing(p), func(r api.Ring) bool { return !holds(r) })
}

func idsHold(list []api.Parcel) bool {
	for i, parcel := range list {
		if parcel.ID < 1 || parcel.ID > 1<<30 || i > 0 && parcel.ID <= list[i-1].ID {
			return false
		}
	}
	return true
}

func ownersHold(list []api.Parcel) bool {
	for _, parcel := range list {
		for i := range len(parcel.Owner) {
			if i == 32 || parcel.Owner[i] < 32 || parcel.Owner[i] > 126 {
				return false
			}
		}
	}
	return true
}

// sides answers a ring's edges as pairs of points.
func sides(r api.Ring) [][2]api.Point {
	var list [][2]api.Point
	for i := range r {
		list = append(list, [2]api.Point{r[i], r[(i+1)%len(r)]})
	}
	return list
}

func noneAlone(p api.Plan) bool {
	for i, one := range p.Parcels {
		for _, e := range sides(one.Ring) {
			found := slices.Contains(sides(p.Outer), e)
			for j, other := range p.Parcels {
				found = found || i != j && slices.Contains(sides(other.Ring), [2]api.Point{e[1], e[0]})
			}
			if !found {
				return false
			}
		}
	}
	return true
}

func noneTwice(p api.Plan) bool {
	for i, one := range p.Parcels {
		for _, other := range p.Parcels[:i] {
			for _, e := range sides(one.Ring) {
				if slices.Contains(sides(other.Ring), e) {
					return false
				}
			}
		}
	}
	return true
}

func noneBare(p api.Plan) bool {
	for _, e := range sides(p.Outer) {
		if !slices.ContainsFunc(p.Parcels, func(parcel api.Parcel) bool { return slices.Contains(sides(parcel.Ring), e) }) {
			return false
		}
	}
	return true
}

func crossed(a, b, c api.Point) int {
	return (b.X-a.X)*(c.Y-a.Y) - (b.Y-a.Y)*(c.X-a.X)
}

func noneOnEdges(p api.Plan) bool {
	for _, c := range slices.Concat(everyRing(p)...) {
		for _, r := range everyRing(p) {
			for _, e := range sides(r) {
				behind := (c.X-e[0].X)*(c.X-e[1].X) + (c.Y-e[0].Y)*(c.Y-e[1].Y)
				if crossed(e[0], e[1], c) == 0 && behind < 0 {
					return false
				}
			}
		}
	}
	return true
}

func noneCross(p api.Plan) bool {
	var all [][2]api.Point
	for _, r := range everyRing(p) {
		all = append(all, sides(r)...)
	}
	for _, e := range all {
		for _, f := range all {
			between := crossed(e[0], e[1], f[0]) > 0 && crossed(e[0], e[1], f[1]) < 0
			if between && crossed(f[0], f[1], e[0])*crossed(f[0], f[1], e[1]) < 0 {
				return false
			}
		}
	}
	return true
}

// doubled is twice the area within, by the strips between each edge and the axis.
func doubled(r api.Ring) int {
	sum := 0
	for i, a := range r {
		b := r[(i+1)%len(r)]
		sum += (a.X - b.X) * (a.Y + b.Y)
	}
	return sum
}

func areasHold(p api.Plan) bool {
	sum := 0
	for _, parcel := range p.Parcels {
		sum += doubled(parcel.Ring)
	}
	return sum == doubled(p.Outer)
}

func isSmall(p api.Plan) bool {
	for _, at := range slices.Concat(everyRing(p)...) {
		if max(at.X, at.Y, -at.X, -at.Y) > 1000000 {
			return false
		}
	}
	return true
}

// judge holds Check, and what it is made of, against the sentences: what follows from others, too, is looked at for itself.
func judge(t *testing.T, name string, p api.Plan, faults []string) {
	t.Helper()
	holds := func(list ...string) bool {
		return !slices.ContainsFunc(list, func(sentence string) bool { return slices.Contains(faults, sentence) })
	}
	want := api.OK
	if len(faults) > 0 {
		want = api.ErrForm
	}
	if e := Check(p); e != want {
		t.Fatalf("Check of %s, %v: error %d, but broken is %q", name, p, e, faults)
	}
	if numbered(p.Parcels) != holds(count, ids, owners) {
		t.Fatalf("numbered of %s, %v is not right: broken is %q", name, p, faults)
	}
	if bordered(ringsOf(p)) != holds(sound, begins, corners) {
		t.Fatalf("bordered of %s, %v is not right: broken is %q", name, p, faults)
	}
	if holds(sound) {
		judgeFit(t, name, p, faults, holds)
	}
}

func judgeFit(t *testing.T, name string, p api.Plan, faults []string, holds func(...string) bool) {
	t.Helper()
	left, single := sidesOf(p.Parcels)
	if single != holds(twice) {
		t.Fatalf("sidesOf of %s, %v is not right: broken is %q", name, p, faults)
	}
	if single && matched(left, p.Outer) != holds(lone, bare) {
		t.Fatalf("matched of %s, %v is not right: broken is %q", name, p, faults)
	}
	if filled(p) != holds(areas) {
		t.Fatalf("filled of %s, %v is not right: broken is %q", name, p, faults)
	}
	if apart(ringsOf(p)) != holds(onEdge, crosses) {
		t.Fatalf("apart of %s, %v is not right: broken is %q", name, p, faults)
	}
	// What no plan breaks without these follows from them.
	if holds(count, lone, twice) && !holds(bare, onEdge, crosses, areas) {
		t.Fatalf("%s, %v: all edges match, but broken is %q", name, p, faults)
	}
}

func TestSoundPlans(t *testing.T) {
	for _, c := range soundPlans() {
		if isSmall(c.plan) {
			if faults := broken(c.plan); len(faults) > 0 {
				t.Errorf("%s is not sound: %q", c.name, faults)
			}
		}
		judge(t, c.name, c.plan, nil)
		if len(slices.Concat(everyRing(c.plan)...)) > 100 || !isSmall(c.plan) {
			continue
		}
		for _, to := range views() {
			judge(t, c.name, moved(c.plan, to), nil)
		}
	}
}

// Each sentence of chapter 5 is broken by some plan, alone if it can be.
func TestUnsoundPlans(t *testing.T) {
	seen := map[string]int{}
	for _, c := range unsoundPlans() {
		if isSmall(c.plan) {
			if faults := broken(c.plan); !slices.Equal(faults, c.faults) {
				t.Errorf("%s breaks %q, not %q", c.name, faults, c.faults)
			}
		}
		judge(t, c.name, c.plan, c.faults)
		for _, sentence := range c.faults {
			seen[sentence]++
		}
		if len(c.faults) == 1 {
			seen["alone: "+c.faults[0]]++
		}
	}
	for _, sentence := range []string{count, ids, owners, sound, begins, corners, lone, twice, bare, onEdge, crosses, areas} {
		if seen[sentence] == 0 {
			t.Errorf("nothing breaks %q", sentence)
		}
	}
	for _, sentence := range []string{count, ids, owners, sound, begins, corners, lone} {
		if seen["alone: "+sentence] == 0 {
			t.Errorf("nothing breaks %q alone", sentence)
		}
	}
}

func TestAsManyCornersAsThereMayBe(t *testing.T) {
	for _, c := range []struct {
		plan    api.Plan
		corners int
		e       api.Errno
	}{
		{strips(1, 62, 61, 62, 61, 62, 61, 62, 61, 1), 1024, api.OK},
		{strips(1, 62, 61, 62, 61, 62, 61, 62, 60, 1), 1022, api.OK},
		{strips(1, 62, 61, 62, 61, 62, 61, 62, 62, 1), 1026, api.ErrForm},
	} {
		if n := len(slices.Concat(everyRing(c.plan)...)); n != c.corners {
			t.Errorf("%d corners, want %d", n, c.corners)
		}
		if e := Check(c.plan); e != c.e {
			t.Errorf("%d corners: error %d, want %d", c.corners, e, c.e)
		}
	}
}

// Each byte at each place of an owner, in each parcel.
func TestOwnersOfAllBytes(t *testing.T) {
	for b := range 256 {
		want := api.OK
		if b < 32 || b > 126 {
			want = api.ErrForm
		}
		for _, length := range []int{1, 2, 32} {
			for place := range length {
				owner := long(place) + string([]byte{byte(b)}) + long(length-place-1)
				for i := range 2 {
					p := halves()
					p.Parcels[i].Owner = owner
					if e := Check(p); e != want {
						t.Fatalf("Check with owner %q: error %d, want %d", owner, e, want)
					}
				}
			}
		}
	}
	for length := range 70 {
		p := halves()
		p.Parcels[1].Owner = strings.Repeat(" ", length)
		if e := Check(p); (e == api.OK) != (length <= 32) {
			t.Errorf("Check with an owner of %d bytes: error %d", length, e)
		}
	}
}

// One corner of one ring is set down elsewhere, left out, or set in, at each place.
func TestOneRingSpoilt(t *testing.T) {
	seen := map[bool]int{}
	for _, p := range []api.Plan{halves(), crossroads(), fan(), draw("aab", "acb", "abb"), draw("aa", "bb")} {
		for i := range len(p.Parcels) + 1 {
			spoiltRings(everyRing(p)[i], func(r api.Ring) {
				q := copied(p)
				if i == 0 {
					q.Outer = r
				} else {
					q.Parcels[i-1].Ring = r
				}
				faults := broken(q)
				seen[len(faults) == 0]++
				judge(t, "a spoilt one", q, faults)
			})
		}
	}
	if seen[false] == 0 {
		t.Errorf("nothing is spoilt: %v", seen)
	}
}

func spoiltRings(r api.Ring, look func(api.Ring)) {
	for i := range r {
		look(least(slices.Delete(slices.Clone(r), i, i+1)))
		eachPoint(-1, 5, func(p api.Point) {
			other := slices.Clone(r)
			other[i] = p
			look(least(other))
			look(least(slices.Insert(slices.Clone(r), i, p)))
		})
	}
}

// One corner is set down elsewhere in all rings that have it: the plan stays sound, or borders cross.
func TestOneCornerMoved(t *testing.T) {
	seen := map[bool]int{}
	for _, p := range []api.Plan{halves(), crossroads(), fan(), draw("aab", "acb", "abb"), draw("aa", "bb")} {
		for _, from := range slices.Concat(everyRing(p)...) {
			eachPoint(-1, 7, func(to api.Point) {
				q := moved(p, func(at api.Point) api.Point {
					if at == from {
						return to
					}
					return at
				})
				faults := broken(q)
				seen[len(faults) == 0]++
				judge(t, "a moved one", q, faults)
			})
		}
	}
	if seen[true] == 0 || seen[false] == 0 {
		t.Errorf("not both: %v", seen)
	}
}

// smallRings are all sound rings of up to so many corners on a small grid, begun at their least corners.
func smallRings(along, up, corners int) []api.Ring {
	var list []api.Ring
	var grow func(api.Ring)
	grow = func(r api.Ring) {
		if ring.Check(r) == api.OK {
			list = append(list, slices.Clone(r))
		}
		if len(r) == corners {
			return
		}
		eachPoint(0, max(along, up), func(p api.Point) {
			if p.X < along && p.Y < up && !slices.Contains(r, p) && (len(r) == 0 || before(r[0], p)) {
				grow(append(slices.Clone(r), p))
			}
		})
	}
	grow(nil)
	return list
}

// All territories of a small grid, with each one and each two parcels of it, and with those three whose areas can come to the whole.
func TestAllSmallPlans(t *testing.T) {
	rings := smallRings(3, 2, 6)
	found := map[int]int{}
	look := func(outer api.Ring, parcels ...api.Ring) {
		p := lay(outer, parcels...)
		faults := broken(p)
		if len(faults) == 0 {
			found[len(parcels)]++
		}
		judge(t, "a small one", p, faults)
	}
	for _, outer := range rings {
		for i, a := range rings {
			look(outer, a)
			for j, b := range rings[:i+1] {
				look(outer, a, b)
				for _, c := range rings[:j+1] {
					if doubled(a)+doubled(b)+doubled(c) == doubled(outer) {
						look(outer, a, b, c)
					}
				}
			}
		}
	}
	if found[1] != len(rings) || found[2] == 0 || found[3] == 0 {
		t.Errorf("of %d rings: %v", len(rings), found)
	}
}

// The same of three times three points, of triangles and quadrilaterals: all twos that match, and some of those that don't, but whose areas come to the whole.
func TestSmallPlansWithACornerWithin(t *testing.T) {
	rings := smallRings(3, 3, 4)
	looked, found := 0, map[bool]int{}
	for _, outer := range rings {
		for i, a := range rings {
			for _, b := range rings[:i+1] {
				p := lay(outer, a, b)
				if doubled(a)+doubled(b) != doubled(outer) {
					continue
				}
				looked++
				if looked%17 > 0 && !noneAlone(p) {
					continue
				}
				faults := broken(p)
				found[len(faults) == 0]++
				judge(t, "a small one", p, faults)
			}
		}
	}
	if found[true] < 300 || found[false] < 20000 {
		t.Errorf("of %d rings: %v", len(rings), found)
	}
}

// Two stretches may have an end of both in common, and nothing else.
func TestLoose(t *testing.T) {
	var stretches []api.Edge
	eachPoint(0, 3, func(a api.Point) {
		eachPoint(0, 3, func(b api.Point) {
			if before(a, b) {
				stretches = append(stretches, api.Edge{A: a, B: b})
			}
		})
	})
	for _, one := range stretches {
		for _, other := range stretches {
			if one == other {
				continue
			}
			p := api.Plan{Parcels: []api.Parcel{{Ring: api.Ring{one.A, one.B}}, {Ring: api.Ring{other.A, other.B}}}}
			want := noneOnEdges(p) && noneCross(p)
			for _, pair := range [][2]api.Edge{{one, other}, {turned(one), other}, {one, turned(other)}, {turned(one), turned(other)}} {
				if loose(pair[0], pair[1]) != want {
					t.Fatalf("loose(%v, %v): %v", pair[0], pair[1], !want)
				}
			}
			if apart(everyRing(p)) != want {
				t.Fatalf("apart of %v and %v: %v", one, other, !want)
			}
		}
	}
}

// A way around all parcels has one way on from each corner; one that has two is none, whichever of them is looked at first.
func TestAround(t *testing.T) {
	left, _ := sidesOf([]api.Parcel{{ID: 1, Ring: of(0, 0, 1, 0, 1, 1, 0, 1)}, {ID: 2, Ring: of(1, 1, 2, 1, 2, 2, 1, 2)}})
	for range 20 {
		if steps, single := around(left); steps != nil || single {
			t.Fatalf("around of two squares that touch: %v", steps)
		}
	}
	left, _ = sidesOf(halves().Parcels)
	steps, single := around(left)
	for i, a := range halves().Outer {
		if steps[a] != halves().Outer[(i+1)%6] {
			t.Errorf("from %v to %v", a, steps[a])
		}
	}
	if !single || len(steps) != 6 {
		t.Errorf("around: %v, %v", steps, single)
	}
}

// Areas that differ by the least there is, at the limits: a machine number doesn't hold them.
func TestFilledAtTheLimits(t *testing.T) {
	whole := of(-limit, -limit, limit, -limit, limit, limit, -limit, limit)
	less := of(-limit, -limit, limit, -limit, limit, limit, 1-limit, limit, -limit, limit-1)
	corner := of(1-limit, limit, -limit, limit, -limit, limit-1)
	if area, _ := ring.Area(corner); area != wide.Of(1) {
		t.Fatalf("the corner's area: %v", area)
	}
	if filled(lay(whole, less)) || !filled(lay(whole, less, corner)) || filled(lay(whole, less, corner, corner)) || filled(lay(less, whole)) {
		t.Error("a corner of the least area is not told")
	}
	for n := range 65 {
		if filled(lay(whole, slices.Repeat([]api.Ring{whole}, n)...)) != (n == 1) {
			t.Errorf("%d times all that is Good is not told from once", n)
		}
	}
}
