package window

import (
	"fmt"
	"math"
	"slices"
	"testing"

	"merestone/api"
	"merestone/ring"
)

// The calls as the chapter lists them: this does not compile if one is another.
var (
	_ func(api.Window) api.Errno                               = Check
	_ func(api.Window, api.Point) (bool, api.Errno)            = Has
	_ func(api.Window, api.Point, api.Point) (bool, api.Errno) = Cuts
	_ func(api.Window, api.Ring) (bool, api.Errno)             = Meets
)

const limit = api.MaxCoord

func at(x, y int) api.Point { return api.Point{X: x, Y: y} }

func box(lowX, lowY, highX, highY int) api.Window {
	return api.Window{Low: at(lowX, lowY), High: at(highX, highY)}
}

// of makes a ring of numbers: X and Y of one corner after the other.
func of(numbers ...int) api.Ring {
	var r api.Ring
	for pair := range slices.Chunk(numbers, 2) {
		r = append(r, at(pair[0], pair[1]))
	}
	return r
}

func begun(r api.Ring, first int) api.Ring {
	return append(slices.Clone(r[first:]), r[:first]...)
}

// A change sets points down elsewhere; one that leaves rectangles rectangles leaves all answers as they are.
type change func(api.Point) api.Point

// each answers a change that does the same with both coordinates.
func each(to func(int) int) change {
	return func(p api.Point) api.Point { return at(to(p.X), to(p.Y)) }
}

// views are the ways to lay the plane down on its grid: each side and corner of a window comes to be each other one.
func views() []change {
	var list []change
	for _, sign := range []api.Point{at(1, 1), at(1, -1), at(-1, 1), at(-1, -1)} {
		list = append(list,
			func(p api.Point) api.Point { return at(sign.X*p.X, sign.Y*p.Y) },
			func(p api.Point) api.Point { return at(sign.X*p.Y, sign.Y*p.X) })
	}
	return list
}

func (to change) window(w api.Window) api.Window {
	a, b := to(w.Low), to(w.High)
	return box(min(a.X, b.X), min(a.Y, b.Y), max(a.X, b.X), max(a.Y, b.Y))
}

// ring answers the changed corners, in the order in which they run to the left again.
func (to change) ring(r api.Ring) api.Ring {
	var other api.Ring
	for _, p := range r {
		other = append(other, to(p))
	}
	if ring.Check(other) != api.OK {
		slices.Reverse(other)
	}
	return other
}

// eachWindow goes through all windows, stretches and points too, whose coordinates are from low to high.
func eachWindow(low, high int, look func(api.Window)) {
	for x := low; x <= high; x++ {
		for y := low; y <= high; y++ {
			for x2 := x; x2 <= high; x2++ {
				for y2 := y; y2 <= high; y2++ {
					look(box(x, y, x2, y2))
				}
			}
		}
	}
}

func eachPoint(low, high int, look func(api.Point)) {
	for x := low; x <= high; x++ {
		for y := low; y <= high; y++ {
			look(at(x, y))
		}
	}
}

// What follows, up to expectedMeets, reckons the chapter's words another way, for small coordinates: from one point to the next.

// expectedHas goes through all the window's points.
func expectedHas(w api.Window, p api.Point) bool {
	for x := w.Low.X; x <= w.High.X; x++ {
		for y := w.Low.Y; y <= w.High.Y; y++ {
			if p == at(x, y) {
				return true
			}
		}
	}
	return false
}

// expectedCuts goes along the stretch in 60 steps: where its ends are at most 6 apart on each axis, it comes in and goes out at one of them, if not at its ends.
func expectedCuts(w api.Window, a, b api.Point) bool {
	for k := range 61 {
		x, y := 60*a.X+k*(b.X-a.X), 60*a.Y+k*(b.Y-a.Y)
		if 60*w.Low.X <= x && x <= 60*w.High.X && 60*w.Low.Y <= y && y <= 60*w.High.Y {
			return true
		}
	}
	return false
}

// land is of a ring on even coordinates: the halves of the steps at which a point of it lies, from -2 to so many.
type land map[api.Point]bool

func landOf(t *testing.T, r api.Ring, reach int) land {
	t.Helper()
	double := each(func(c int) int { return 2 * c }).ring(r)
	points := land{}
	eachPoint(-2, reach, func(p api.Point) {
		side, e := ring.Side(double, p)
		if e != api.OK {
			t.Fatalf("Side(%v, %v): error %d", double, p, e)
		}
		points[p] = side >= 0
	})
	return points
}

// expectedMeets goes through the window's points by half steps. Each corner of what land and window have in common is one of them, if the ring has even coordinates and no edge that is steeper or flatter than 2 to 1, but straight up or along.
func (points land) expectedMeets(w api.Window) bool {
	for x := 2 * w.Low.X; x <= 2*w.High.X; x++ {
		for y := 2 * w.Low.Y; y <= 2*w.High.Y; y++ {
			if points[at(x, y)] {
				return true
			}
		}
	}
	return false
}

// smallRings are all sound rings of up to 6 corners on a grid of three times three, begun at their least corners; all coordinates are even.
func smallRings() []api.Ring {
	var list []api.Ring
	var grow func(api.Ring)
	grow = func(r api.Ring) {
		if ring.Check(r) == api.OK {
			list = append(list, slices.Clone(r))
		}
		if len(r) == 6 {
			return
		}
		eachPoint(0, 2, func(p api.Point) {
			p = at(2*p.X, 2*p.Y)
			if !slices.Contains(r, p) && (len(r) == 0 || r[0].X < p.X || r[0].X == p.X && r[0].Y < p.Y) {
				grow(append(slices.Clone(r), p))
			}
		})
	}
	grow(nil)
	return list
}

// comb has teeth above and below, on even coordinates: n corners, n even.
func comb(n int) api.Ring {
	var r api.Ring
	for i := range n / 2 {
		r = append(r, at(2*i, 2*(i%2)))
	}
	for i := n/2 - 1; i >= 0; i-- {
		r = append(r, at(2*i, 6+2*(i%2)))
	}
	return r
}

func spiral() api.Ring {
	return of(0, 0, 18, 0, 18, 18, 4, 18, 4, 8, 10, 8, 10, 12, 8, 12, 8, 10, 6, 10, 6, 16, 16, 16, 16, 2, 2, 2, 2, 18, 0, 18)
}

func has(t *testing.T, w api.Window, p api.Point, want bool) {
	t.Helper()
	if got, e := Has(w, p); got != want || e != api.OK {
		t.Fatalf("Has(%v, %v): %v, error %d, want %v", w, p, got, e, want)
	}
}

func cuts(t *testing.T, w api.Window, a, b api.Point, want bool) {
	t.Helper()
	if got, e := Cuts(w, a, b); got != want || e != api.OK {
		t.Fatalf("Cuts(%v, %v, %v): %v, error %d, want %v", w, a, b, got, e, want)
	}
}

func meets(t *testing.T, w api.Window, r api.Ring, want bool) {
	t.Helper()
	if got, e := Meets(w, r); got != want || e != api.OK {
		t.Fatalf("Meets(%v, %v): %v, error %d, want %v", w, r, got, e, want)
	}
}

func TestChapterExample(t *testing.T) {
	w := box(0, 0, 2, 2)
	if e := Check(w); e != api.OK {
		t.Errorf("Check: error %d", e)
	}
	cuts(t, w, at(-1, 1), at(1, 3), true)
	cuts(t, w, at(-1, 2), at(1, 4), false)
	meets(t, w, of(-1, -1, 3, -1, 3, 3, -1, 3), true)
}

// P4.1

// A judged window has the error that Check must tell of it.
type judged struct {
	name string
	w    api.Window
	e    api.Errno
}

func judgedWindows() []judged {
	list := []judged{
		{"a rectangle", box(-3, 1, 4, 7), api.OK},
		{"a stretch along", box(-3, 2, 4, 2), api.OK},
		{"a stretch up", box(2, -3, 2, 4), api.OK},
		{"a stretch of one step", box(2, 2, 3, 2), api.OK},
		{"a point", box(2, 2, 2, 2), api.OK},
		{"the zero window", api.Window{}, api.OK},
		{"all that is Good", box(-limit, -limit, limit, limit), api.OK},
		{"a point at the least of Good", box(-limit, -limit, -limit, -limit), api.OK},
		{"a point at the most of Good", box(limit, limit, limit, limit), api.OK},
		{"a stretch at the side of Good", box(-limit, limit, limit, limit), api.OK},
		{"Low above High in X", box(5, 1, 4, 7), api.ErrArg},
		{"Low above High in Y", box(-3, 8, 4, 7), api.ErrArg},
		{"Low above High in both", box(5, 8, 4, 7), api.ErrArg},
		{"Low above High in X, level in Y", box(5, 7, 4, 7), api.ErrArg},
		{"Low above High in Y, level in X", box(4, 8, 4, 7), api.ErrArg},
		{"Low far above High in X", box(limit, -limit, -limit, limit), api.ErrArg},
		{"Low far above High in Y", box(-limit, limit, limit, -limit), api.ErrArg},
		{"Low far above High in both", box(limit, limit, -limit, -limit), api.ErrArg},
	}
	// Each coordinate beyond Good, of a window that is sound but for it, and of one that has Low above High beside it.
	for _, n := range []int{limit + 1, -limit - 1, math.MaxInt, math.MinInt, 1 << 32} {
		for _, w := range []api.Window{box(-3, 1, 4, 7), {}, box(-limit, -limit, limit, limit), box(5, 8, 4, 7), box(limit, limit, -limit, -limit)} {
			for i := range 4 {
				other := w
				coordinates := []*int{&other.Low.X, &other.Low.Y, &other.High.X, &other.High.Y}
				*coordinates[i] = n
				list = append(list, judged{fmt.Sprintf("coordinate %d beyond Good", i), other, api.ErrRange})
			}
		}
		list = append(list,
			judged{"a point beyond Good", box(n, n, n, n), api.ErrRange},
			judged{"Low beyond Good", box(n, n, 4, 7), api.ErrRange},
			judged{"High beyond Good", box(-3, 1, n, n), api.ErrRange})
	}
	return list
}

func TestCheck(t *testing.T) {
	for _, c := range judgedWindows() {
		if e := Check(c.w); e != c.e {
			t.Errorf("Check of %s, %v: error %d, want %d", c.name, c.w, e, c.e)
		}
	}
	eachPoint(-2, 2, func(low api.Point) {
		eachPoint(-2, 2, func(high api.Point) {
			want := api.ErrArg
			if low.X <= high.X && low.Y <= high.Y {
				want = api.OK
			}
			if e := Check(api.Window{Low: low, High: high}); e != want {
				t.Errorf("Check of Low %v, High %v: error %d, want %d", low, high, e, want)
			}
		})
	})
}

// first answers what is told where several errors apply, in their order.
func first(errors ...api.Errno) api.Errno {
	for _, e := range errors {
		if e != api.OK {
			return e
		}
	}
	return api.OK
}

// judgedPoints are points with the error for each.
func judgedPoints() map[api.Point]api.Errno {
	list := map[api.Point]api.Errno{}
	for _, p := range []api.Point{at(0, 0), at(2, 2), at(limit, limit), at(-limit, -limit), at(limit, 0), at(0, -limit)} {
		list[p] = api.OK
	}
	for _, n := range []int{limit + 1, -limit - 1, math.MaxInt, math.MinInt} {
		for _, p := range []api.Point{at(n, 2), at(2, n), at(n, n), at(n, -limit)} {
			list[p] = api.ErrRange
		}
	}
	return list
}

func TestWhichErrorOfPoints(t *testing.T) {
	points := judgedPoints()
	for _, c := range judgedWindows() {
		for p, e := range points {
			want := first(c.e, e)
			if got, e := Has(c.w, p); e != want || e != api.OK && got {
				t.Errorf("Has of %s %v, %v: %v, error %d, want error %d", c.name, c.w, p, got, e, want)
			}
			for q, e2 := range points {
				want := first(c.e, e, e2)
				if got, e := Cuts(c.w, p, q); e != want || e != api.OK && got {
					t.Errorf("Cuts of %s %v, %v, %v: %v, error %d, want error %d", c.name, c.w, p, q, got, e, want)
				}
			}
		}
	}
}

func TestWhichErrorOfRings(t *testing.T) {
	tooMany := append(comb(api.MaxPoints), at(-2, 4))
	for _, c := range judgedWindows() {
		for _, r := range []struct {
			name string
			ring api.Ring
			e    api.Errno
		}{
			{"a sound ring", of(0, 0, 4, 0, 4, 4), api.OK},
			{"as many corners as there may be", comb(api.MaxPoints), api.OK},
			{"a corner too many", tooMany, api.ErrLarge},
			{"a corner too many, and one that is not Good", append(slices.Clone(tooMany[1:]), at(limit+1, 0)), api.ErrLarge},
			{"very many corners, all one", make(api.Ring, 100_000), api.ErrLarge},
			{"a corner that is not Good", of(0, 0, 4, 0, limit+1, 4), api.ErrRange},
			{"a corner that is not Good, on a straight line", of(0, 0, 4, 0, math.MinInt, 0), api.ErrRange},
			{"no corner", nil, api.ErrRing},
			{"no corner, not nil", api.Ring{}, api.ErrRing},
			{"one corner", of(2, 2), api.ErrRing},
			{"two corners", of(0, 0, 4, 4), api.ErrRing},
			{"to the right", of(0, 0, 4, 4, 4, 0), api.ErrRing},
			{"a straight line", of(0, 0, 2, 0, 4, 0), api.ErrRing},
			{"edges that cross", of(0, 0, 9, 0, 9, 9, 4, 9, 4, 10, 5, 10, 5, 8, 0, 8), api.ErrRing},
			{"a corner twice", of(0, 0, 4, 0, 2, 2, 4, 4, 0, 4, 2, 2), api.ErrRing},
		} {
			if e := ring.Check(r.ring); e != r.e {
				t.Fatalf("Check of %s: error %d, want %d", r.name, e, r.e)
			}
			want := first(c.e, r.e)
			if got, e := Meets(c.w, r.ring); e != want || e != api.OK && got {
				t.Errorf("Meets of %s %v, %s: %v, error %d, want error %d", c.name, c.w, r.name, got, e, want)
			}
		}
	}
}

// P4.2: Has

func TestHas(t *testing.T) {
	for p, want := range map[api.Point]bool{
		at(2, 1): true, at(1, 1): true, // within
		at(0, 1): true, at(4, 1): true, at(2, 0): true, at(2, 2): true, // on each side
		at(0, 0): true, at(4, 0): true, at(4, 2): true, at(0, 2): true, // on each corner
		at(-1, 1): false, at(5, 1): false, at(2, -1): false, at(2, 3): false, // outside each side
		at(-1, 0): false, at(0, -1): false, at(5, 2): false, at(4, 3): false, at(-1, 2): false, at(0, 3): false, at(5, 0): false, at(4, -1): false, // beside the corners
		at(-1, -1): false, at(5, 3): false, at(-1, 3): false, at(5, -1): false,
		at(limit, 1): false, at(2, limit): false, at(-limit, 1): false, at(2, -limit): false,
	} {
		has(t, box(0, 0, 4, 2), p, want)
	}
	for p, want := range map[api.Point]bool{at(0, 2): true, at(2, 2): true, at(4, 2): true, at(-1, 2): false, at(5, 2): false, at(2, 1): false, at(2, 3): false} {
		has(t, box(0, 2, 4, 2), p, want)
		has(t, box(2, 0, 2, 4), at(p.Y, p.X), want)
	}
	for p, want := range map[api.Point]bool{at(2, 2): true, at(1, 2): false, at(3, 2): false, at(2, 1): false, at(2, 3): false} {
		has(t, box(2, 2, 2, 2), p, want)
	}
}

func TestHasOfAllPlaces(t *testing.T) {
	far := each(func(c int) int { return (c - 1) * limit })
	eachWindow(0, 3, func(w api.Window) {
		eachPoint(-1, 4, func(p api.Point) {
			want := expectedHas(w, p)
			has(t, w, p, want)
			if max(p.X, p.Y, w.High.X, w.High.Y) <= 2 && min(p.X, p.Y) >= 0 {
				has(t, far.window(w), far(p), want)
			}
		})
	})
}

func TestHasAtTheLimits(t *testing.T) {
	all := box(-limit, -limit, limit, limit)
	inner := box(1-limit, 1-limit, limit-1, limit-1)
	for _, p := range []api.Point{at(limit, limit), at(-limit, -limit), at(limit, -limit), at(-limit, limit), at(limit, 0), at(0, limit), at(-limit, 0), at(0, -limit)} {
		has(t, all, p, true)
		has(t, inner, p, false)
		has(t, api.Window{Low: p, High: p}, p, true)
	}
}

// P4.2: Cuts

// cutCases are of the window from (0, 0) to (4, 2).
func cutCases(look func(name string, a, b api.Point, want bool)) {
	for _, c := range []struct {
		name string
		a, b api.Point
		want bool
	}{
		{"ends in the window", at(-3, 1), at(2, 1), true},
		{"ends on a side", at(-3, 5), at(2, 2), true},
		{"ends on a corner", at(-3, 5), at(0, 2), true},
		{"lies wholly within", at(1, 1), at(3, 1), true},
		{"goes from side to side", at(0, 1), at(3, 2), true},
		{"is a diagonal", at(0, 2), at(4, 0), true},
		{"goes through two sides face to face, along", at(-2, 1), at(6, 1), true},
		{"goes through two sides face to face, up", at(2, -2), at(2, 6), true},
		{"goes through two sides face to face, aslant", at(0, -1), at(5, 4), true},
		{"goes through two sides that have a corner in common", at(-1, 0), at(2, 3), true},
		{"goes through two sides between the points of the grid", at(-1, 1), at(2, 3), true},
		{"goes through two corners", at(-2, 3), at(6, -1), true},
		{"touches one corner", at(-1, 1), at(1, 3), true},
		{"touches one corner, steep", at(-1, 0), at(1, 4), true},
		{"lies along a side, and further", at(-1, 2), at(5, 2), true},
		{"lies along a side", at(0, 2), at(4, 2), true},
		{"lies along a part of a side", at(1, 2), at(3, 2), true},
		{"lies along a side's beginning", at(-3, 2), at(1, 2), true},
		{"lies along a side up to its corner", at(-3, 2), at(0, 2), true},
		{"lies in line with a side, beyond it", at(-3, 2), at(-1, 2), false},
		{"lies beside a side", at(0, 3), at(4, 3), false},
		{"lies beside a side, and further", at(-1, 3), at(5, 3), false},
		{"passes a corner by", at(-1, 2), at(1, 4), false},
		{"passes a corner by, by less than a step", at(-3, 1), at(1, 3), false},
		{"passes a corner by, from far", at(-9, 2), at(9, 3), false},
		{"would pass through, but ends too early", at(-3, 5), at(-1, 3), false},
		{"ends just outside, along", at(-3, 1), at(-1, 1), false},
		{"ends just outside, up", at(2, 9), at(2, 3), false},
		{"ends just outside a corner", at(-4, 6), at(-1, 3), false},
		{"is a point within", at(2, 1), at(2, 1), true},
		{"is a point on a side", at(2, 2), at(2, 2), true},
		{"is a point on a side, up", at(4, 1), at(4, 1), true},
		{"is a point on a corner", at(4, 2), at(4, 2), true},
		{"is a point beside a side", at(2, 3), at(2, 3), false},
		{"is a point beside a corner", at(5, 2), at(5, 2), false},
		{"is a point off a corner", at(5, 3), at(5, 3), false},
		{"is far off", at(20, 20), at(30, 25), false},
	} {
		look(c.name, c.a, c.b, c.want)
	}
}

func TestCuts(t *testing.T) {
	w := box(0, 0, 4, 2)
	cutCases(func(name string, a, b api.Point, want bool) {
		for _, to := range views() {
			if got, e := Cuts(to.window(w), to(a), to(b)); got != want || e != api.OK {
				t.Errorf("a stretch that %s: Cuts(%v, %v, %v): %v, error %d, want %v", name, to.window(w), to(a), to(b), got, e, want)
			}
			if got, e := Cuts(to.window(w), to(b), to(a)); got != want || e != api.OK {
				t.Errorf("a stretch that %s, turned: %v, error %d, want %v", name, got, e, want)
			}
		}
	})
}

func TestCutsOfStretchesAndPoints(t *testing.T) {
	along, point := box(0, 2, 4, 2), box(2, 2, 2, 2)
	for _, to := range views() {
		cuts(t, to.window(along), to(at(1, 1)), to(at(1, 3)), true)
		cuts(t, to.window(along), to(at(1, 1)), to(at(2, 4)), true)
		cuts(t, to.window(along), to(at(0, 1)), to(at(0, 3)), true)
		cuts(t, to.window(along), to(at(3, 2)), to(at(9, 2)), true)
		cuts(t, to.window(along), to(at(4, 2)), to(at(9, 2)), true)
		cuts(t, to.window(along), to(at(-5, 2)), to(at(9, 2)), true)
		cuts(t, to.window(along), to(at(3, 2)), to(at(3, 2)), true)
		cuts(t, to.window(along), to(at(5, 2)), to(at(9, 2)), false)
		cuts(t, to.window(along), to(at(5, 2)), to(at(5, 2)), false)
		cuts(t, to.window(along), to(at(-1, 1)), to(at(-1, 3)), false)
		cuts(t, to.window(along), to(at(0, 3)), to(at(4, 3)), false)
		cuts(t, to.window(along), to(at(0, 1)), to(at(-1, 4)), false)
		cuts(t, to.window(point), to(at(0, 0)), to(at(4, 4)), true)
		cuts(t, to.window(point), to(at(0, 1)), to(at(4, 3)), true)
		cuts(t, to.window(point), to(at(2, 2)), to(at(4, 3)), true)
		cuts(t, to.window(point), to(at(2, 0)), to(at(2, 9)), true)
		cuts(t, to.window(point), to(at(2, 2)), to(at(2, 2)), true)
		cuts(t, to.window(point), to(at(2, 3)), to(at(2, 9)), false)
		cuts(t, to.window(point), to(at(0, 0)), to(at(4, 3)), false)
		cuts(t, to.window(point), to(at(3, 3)), to(at(4, 4)), false)
		cuts(t, to.window(point), to(at(2, 3)), to(at(2, 3)), false)
	}
}

// All stretches on a small grid and all windows on it, as they are, and drawn out to the limits.
func TestCutsOfAllStretches(t *testing.T) {
	far := each(func(c int) int { return (c - 2) * (limit / 2) })
	seen := map[bool]int{}
	eachWindow(0, 4, func(w api.Window) {
		eachPoint(-1, 5, func(a api.Point) {
			eachPoint(-1, 5, func(b api.Point) {
				want := expectedCuts(w, a, b)
				seen[want]++
				cuts(t, w, a, b, want)
				if min(a.X, a.Y, b.X, b.Y) >= 0 && max(a.X, a.Y, b.X, b.Y) <= 4 {
					cuts(t, far.window(w), far(a), far(b), want)
				}
			})
		})
	})
	if seen[true] == 0 || seen[false] == 0 {
		t.Errorf("not both answers: %v", seen)
	}
}

// The long stretch passes (0, 0) and (1, 0) by half a step, between them.
func TestCutsInNarrowPlaces(t *testing.T) {
	a, b := at(-limit, -limit), at(limit, limit-1)
	for w, want := range map[api.Window]bool{
		box(0, 0, 0, 0): false, box(1, 0, 1, 0): false, box(0, 0, 1, 0): true, box(0, -1, 0, 0): true,
		box(-9, 0, 0, 9): false, box(1, -9, 9, 0): false, box(-limit, 0, 0, limit): false, box(1, -limit, limit, 0): false,
		box(-9, 0, 1, 9): true, box(0, -9, 9, 0): true,
		box(-limit, -limit, -limit, -limit): true, box(1-limit, 1-limit, 1-limit, 1-limit): false,
		box(limit, limit-1, limit, limit): true, box(limit, limit, limit, limit): false, box(limit-1, limit-1, limit, limit): true,
	} {
		for _, to := range views() {
			cuts(t, to.window(w), to(a), to(b), want)
			cuts(t, to.window(w), to(b), to(a), want)
		}
	}
}

// P4.2: Meets

// meetCases are of the window from (0, 0) to (4, 4).
func meetCases(look func(name string, r api.Ring, want bool)) {
	for _, c := range []struct {
		name string
		ring api.Ring
		want bool
	}{
		{"has edges through the window", of(-2, 1, 6, 1, 6, 3, -2, 3), true},
		{"has one edge through the window, across a corner", of(-5, -5, 6, -5, -5, 6), true},
		{"has one edge through the window, between the points of the grid", of(-5, -5, 3, -5, -1, 3), true},
		{"has one edge through the window, that cuts it in two", of(-9, -9, 9, -9, -9, 12), true},
		{"has one corner in the window", of(2, 2, 9, 1, 9, 3), true},
		{"has all corners but one in the window", of(1, 1, 3, 1, 9, 9), true},
		{"touches a corner with one corner", of(4, 4, 8, 4, 8, 8), true},
		{"touches a side with one corner", of(4, 2, 8, 0, 8, 4), true},
		{"touches a corner with one edge", of(8, 0, 8, 8, 0, 8), true},
		{"touches a side with one edge", of(4, 0, 8, 0, 8, 4, 4, 4), true},
		{"touches a side with one longer edge", of(4, -3, 8, -3, 8, 9, 4, 9), true},
		{"touches a side with one shorter edge", of(4, 1, 8, 1, 8, 2, 4, 2), true},
		{"touches a corner with a corner on a straight line", of(4, 4, 4, 9, -4, 4), true},
		{"lies wholly within the window", of(1, 1, 3, 1, 3, 3, 1, 3), true},
		{"lies within the window, up to its sides", of(2, 0, 4, 2, 2, 4, 0, 2), true},
		{"is the window's border", of(0, 0, 4, 0, 4, 4, 0, 4), true},
		{"has the window wholly within it", of(-1, -1, 5, -1, 5, 5, -1, 5), true},
		{"has the window wholly within it, far around", of(-limit, -limit, limit, -limit, limit, limit, -limit, limit), true},
		{"has the window within it, up to a side", of(-1, -1, 4, -1, 4, 5, -1, 5), true},
		{"has the window within it, beside a bay", of(-3, -3, 9, -3, 9, 9, 6, 9, 6, -2, 5, -2, 5, 9, -3, 9), true},
		{"goes round it in a bay", of(-2, -2, 6, -2, 6, 6, 5, 6, 5, -1, -1, -1, -1, 6, -2, 6), false},
		{"goes round it in a bay that is nearly closed", of(-2, -2, 6, -2, 6, 6, 2, 6, 2, 5, 5, 5, 5, -1, -1, -1, -1, 5, 1, 5, 1, 6, -2, 6), false},
		{"goes round it in a bay, and touches a side", of(-2, -2, 6, -2, 6, 6, 4, 6, 4, -1, -1, -1, -1, 6, -2, 6), true},
		{"goes round it in a bay, and touches a corner", of(-2, -2, 6, -2, 6, 6, 5, 6, 5, -1, -1, -1, -1, 3, 2, 6, -2, 6), true},
		{"goes round it in a bay, from which a cape comes in", of(-2, -2, 6, -2, 6, 6, 5, 6, 5, -1, 3, -1, 2, 1, 1, -1, -1, -1, -1, 6, -2, 6), true},
		{"lies beside a side", of(5, 0, 8, 0, 8, 4, 5, 4), false},
		{"lies beside a corner", of(5, 5, 8, 5, 8, 8), false},
		{"passes a corner by with one edge", of(9, 0, 9, 9, 0, 9), false},
		{"passes a corner by with one edge, by less than a step", of(9, 2, 9, 9, 1, 6), false},
		{"is far off", of(40, 40, 44, 40, 44, 44), false},
		{"is at the end of what is Good", of(limit-1, limit-1, limit, limit-1, limit, limit), false},
	} {
		look(c.name, c.ring, c.want)
	}
}

func TestMeets(t *testing.T) {
	w := box(0, 0, 4, 4)
	meetCases(func(name string, r api.Ring, want bool) {
		for _, to := range views() {
			for i := range r {
				other := begun(to.ring(r), i)
				if got, e := Meets(to.window(w), other); got != want || e != api.OK {
					t.Errorf("a ring that %s: Meets(%v, %v): %v, error %d, want %v", name, to.window(w), other, got, e, want)
				}
			}
		}
	})
}

// A ring with a bay from above, and windows that are stretches and points.
func TestMeetsOfStretchesAndPoints(t *testing.T) {
	r := of(0, 0, 6, 0, 6, 6, 4, 6, 3, 2, 2, 6, 0, 6)
	for w, want := range map[api.Window]bool{
		box(1, 1, 1, 1): true, box(3, 1, 3, 1): true, // a point within
		box(3, 0, 3, 0): true, box(6, 3, 6, 3): true, // on an edge
		box(0, 0, 0, 0): true, box(3, 2, 3, 2): true, box(4, 6, 4, 6): true, // on a corner
		box(3, 3, 3, 3): false, box(3, 6, 3, 6): false, // in the bay
		box(7, 3, 7, 3): false, box(-1, -1, -1, -1): false, box(3, 7, 3, 7): false, // outside
		box(-2, 3, 9, 3): true, box(1, -2, 1, 9): true, // a stretch through it
		box(1, 1, 5, 1): true, box(5, 1, 5, 4): true, // within
		box(3, 3, 3, 9): false, box(3, 2, 3, 9): true, // in the bay, and up to its end
		box(3, 4, 4, 4): true, box(3, 4, 3, 5): false, // from the bay into the land, and not
		box(3, 6, 3, 9): false, box(4, 6, 4, 9): true, box(2, 6, 4, 6): true, // above
		box(6, 0, 6, 9): true, box(6, -5, 6, 0): true, box(6, -5, 6, -1): false, // along an edge, up to a corner, in line with it
		box(7, 0, 7, 6): false, box(-9, -1, 9, -1): false, // beside it
	} {
		for _, to := range views() {
			for i := range r {
				meets(t, to.window(w), begun(to.ring(r), i), want)
			}
		}
	}
}

// All small rings and all windows around them, as they are, and drawn out to the limits.
func TestMeetsOfAllSmallRings(t *testing.T) {
	far := each(func(c int) int { return (c - 2) * (limit / 2) })
	seen := map[bool]int{}
	rings := smallRings()
	for _, r := range rings {
		points, farRing := landOf(t, r, 10), far.ring(r)
		eachWindow(-1, 5, func(w api.Window) {
			want := points.expectedMeets(w)
			seen[want]++
			meets(t, w, r, want)
			if min(w.Low.X, w.Low.Y) >= 0 && max(w.High.X, w.High.Y) <= 4 {
				meets(t, far.window(w), farRing, want)
			}
		})
	}
	if len(rings) < 500 || seen[true] == 0 || seen[false] == 0 {
		t.Errorf("of %d rings: %v", len(rings), seen)
	}
}

// Windows of all places of a ring with bays, up to a few steps large.
func TestMeetsOfLargerRings(t *testing.T) {
	for _, r := range []api.Ring{spiral(), comb(10), comb(18)} {
		points := landOf(t, r, 40)
		eachPoint(-1, 19, func(low api.Point) {
			for x := range 4 {
				for y := range 4 {
					w := box(low.X, low.Y, min(low.X+x, 20), min(low.Y+y, 20))
					meets(t, w, r, points.expectedMeets(w))
				}
			}
		})
	}
}

// Each edge of a ring is looked at, the last one too: a window of one step, from outside to the middle of an edge, has no other point of the land, and has its Low outside in some of the views.
func TestMeetsOfEachEdge(t *testing.T) {
	rings := []api.Ring{comb(api.MaxPoints)}
	for _, to := range views() {
		rings = append(rings, to.ring(comb(40)))
	}
	for _, r := range rings {
		for i, a := range r {
			b := r[(i+1)%len(r)]
			middle := at((a.X+b.X)/2, (a.Y+b.Y)/2)
			for _, off := range []api.Point{at(1, 0), at(0, 1)} {
				meets(t, api.Window{Low: middle, High: at(middle.X+off.X, middle.Y+off.Y)}, r, true)
				meets(t, api.Window{Low: at(middle.X-off.X, middle.Y-off.Y), High: middle}, r, true)
			}
		}
	}
}

func TestMeetsAtTheLimits(t *testing.T) {
	all := of(-limit, -limit, limit, -limit, limit, limit, -limit, limit)
	for _, p := range []api.Point{at(limit, limit), at(-limit, -limit), at(limit, -limit), at(-limit, limit), at(limit, 0), at(0, -limit), at(0, 0)} {
		meets(t, api.Window{Low: p, High: p}, all, true)
		meets(t, box(-limit, -limit, limit, limit), all, true)
	}
	// A bay up to the limits: the window has its opening, and not a point of the ring.
	bay := of(-limit, -limit, limit, -limit, limit, limit, limit-1, limit, limit-1, 1-limit, 1-limit, 1-limit, 1-limit, limit, -limit, limit)
	for _, to := range views() {
		meets(t, to.window(box(2-limit, 2-limit, limit-2, limit)), to.ring(bay), false)
		meets(t, to.window(box(2-limit, 2-limit, limit-1, limit)), to.ring(bay), true)
		meets(t, to.window(box(1-limit, limit, limit-2, limit)), to.ring(bay), true)
		meets(t, to.window(box(2-limit, 1-limit, limit-2, limit)), to.ring(bay), true)
	}
	// The long edge passes (0, 0) and (1, 0) by half a step, between them; the land is to its left.
	half := of(-limit, -limit, limit, limit-1, -limit, limit)
	for w, want := range map[api.Window]bool{
		box(0, 0, 0, 0): true, box(1, 0, 1, 0): false, box(0, -1, 0, -1): false, box(0, -1, 0, 0): true, box(0, -1, 1, 0): true,
		box(1, -limit, limit, 0): false, box(0, -limit, limit, 0): true, box(1, -limit, limit, 1): true,
		box(limit, limit-1, limit, limit): true, box(limit, limit, limit, limit): false, box(limit, -limit, limit, limit-2): false,
	} {
		for _, to := range views() {
			meets(t, to.window(w), to.ring(half), want)
		}
	}
}

// What is handed in stays as it is, its spare room too; sound or not, and whatever is answered. The same call again has the same answer.
func TestArgumentsStay(t *testing.T) {
	rings := append(smallRings(), spiral(), comb(api.MaxPoints), comb(api.MaxPoints+2), of(0, 0, 4, 4, 4, 0), of(0, 0, limit+1, 0, 4, 4))
	for _, r := range rings {
		room := append(slices.Clone(r), at(7, 7), at(8, 8), at(9, 9))
		was := slices.Clone(room)
		for _, w := range []api.Window{box(1, 1, 1, 1), box(-1, -1, 9, 9), box(20, 20, 30, 30), box(5, 5, 4, 4)} {
			got, e := Meets(w, room[:len(r)])
			again, e2 := Meets(w, room[:len(r)])
			if got != again || e != e2 {
				t.Fatalf("Meets(%v, %v): %v, error %d, and then %v, error %d", w, r, got, e, again, e2)
			}
		}
		if !slices.Equal(room, was) {
			t.Fatalf("%v is now %v", was, room)
		}
	}
}
