package ring

import (
	"fmt"
	"math"
	"slices"
	"testing"

	"merestone/api"
	"merestone/wide"
)

// The calls as the chapter lists them: this does not compile if one is another.
var (
	_ func(api.Ring) api.Errno                   = Check
	_ func(api.Ring) (api.Int, api.Errno)        = Area
	_ func(api.Ring, api.Point) (int, api.Errno) = Side
	_ func(api.Ring) (api.Ring, api.Errno)       = Norm
	_ func(api.Ring) api.Ring                    = Turned
)

const limit = api.MaxCoord

// of makes a ring of numbers: X and Y of one corner after the other.
func of(numbers ...int) api.Ring {
	var r api.Ring
	for i := 0; i < len(numbers); i += 2 {
		r = append(r, api.Point{X: numbers[i], Y: numbers[i+1]})
	}
	return r
}

// mapped answers r with each coordinate changed.
func mapped(r api.Ring, change func(int) int) api.Ring {
	var other api.Ring
	for _, p := range r {
		other = append(other, api.Point{X: change(p.X), Y: change(p.Y)})
	}
	return other
}

func begun(r api.Ring, at int) api.Ring {
	return append(slices.Clone(r[at:]), r[:at]...)
}

func backward(r api.Ring) api.Ring {
	var other api.Ring
	for i := len(r) - 1; i >= 0; i-- {
		other = append(other, r[i])
	}
	return other
}

// What follows, up to expectedSide, reckons the chapter's words another way, for small coordinates.

func crossed(a, b, c, d api.Point) int {
	return (b.X-a.X)*(d.Y-c.Y) - (b.Y-a.Y)*(d.X-c.X)
}

// common answers how many points two stretches have in common (2: more than one), by solving for the common point, or by the overlap along an axis; no stretch is a point.
func common(a, b, c, d api.Point) int {
	det, t, u := crossed(a, b, c, d), crossed(a, c, c, d), crossed(a, c, a, b)
	switch {
	case det < 0:
		det, t, u = -det, -t, -u
	case det == 0 && t != 0:
		return 0
	case det == 0 && a.X != b.X:
		return overlap(a.X, b.X, c.X, d.X)
	case det == 0:
		return overlap(a.Y, b.Y, c.Y, d.Y)
	}
	if t < 0 || t > det || u < 0 || u > det {
		return 0
	}
	return 1
}

func overlap(a, b, c, d int) int {
	low, high := max(min(a, b), min(c, d)), min(max(a, b), max(c, d))
	return max(0, min(high-low+1, 2))
}

// expectedArea is by the strips between each edge and the axis.
func expectedArea(r api.Ring) int {
	sum := 0
	for i, a := range r {
		b := r[(i+1)%len(r)]
		sum += (a.X - b.X) * (a.Y + b.Y)
	}
	return sum
}

// expectedSound is the chapter's sentence word by word; all corners are Good.
func expectedSound(r api.Ring) bool {
	n := len(r)
	if n < 3 || n > api.MaxPoints {
		return false
	}
	for i := range r {
		for j := range i {
			if r[i] == r[j] {
				return false
			}
		}
	}
	for i := range r {
		for j := range i {
			want := 0
			if (i+1)%n == j || (j+1)%n == i {
				want = 1
			}
			if common(r[i], r[(i+1)%n], r[j], r[(j+1)%n]) != want {
				return false
			}
		}
	}
	return expectedArea(r) > 0
}

// expectedSide counts the edges across a way from p to a point so far off, one step up, that no corner but p is on that way.
func expectedSide(r api.Ring, p api.Point) int {
	far, count := api.Point{X: p.X + 1000, Y: p.Y + 1}, 0
	for i, a := range r {
		b := r[(i+1)%len(r)]
		if crossed(a, b, a, p) == 0 && (a.X-p.X)*(b.X-p.X) <= 0 && (a.Y-p.Y)*(b.Y-p.Y) <= 0 {
			return 0
		}
		if a != b {
			count += common(a, b, p, far)
		}
	}
	return []int{-1, 1}[count%2]
}

func expectedCheck(r api.Ring) api.Errno {
	if expectedSound(r) {
		return api.OK
	}
	return api.ErrRing
}

// eachSmallRing goes through all rings of n corners, those with corners twice among them, on a grid of three times three.
func eachSmallRing(n int, look func(api.Ring)) {
	r := make(api.Ring, n)
	var place func(int)
	place = func(i int) {
		if i == n {
			look(r)
			return
		}
		for k := range 9 {
			r[i] = api.Point{X: k / 3, Y: k % 3}
			place(i + 1)
		}
	}
	place(0)
}

// soundRings are rings of which each sentence on sound ones is asked: all of 3 and 4 corners on the small grid, one of each form of 5 and 6, begun at their least corners, and some larger ones.
func soundRings() []api.Ring {
	var list []api.Ring
	for n := 3; n <= 6; n++ {
		eachSmallRing(n, func(r api.Ring) {
			if (n <= 4 || least(r) == 0) && expectedSound(r) {
				list = append(list, slices.Clone(r))
			}
		})
	}
	return append(list, comb(8), comb(40), stairs(12), spiral())
}

// least answers the place of the least corner, by looking for one that no other is below.
func least(r api.Ring) int {
	at := 0
	for i, p := range r {
		if p.X < r[at].X || p.X == r[at].X && p.Y < r[at].Y {
			at = i
		}
	}
	return at
}

// comb has teeth above and below: n corners, n even.
func comb(n int) api.Ring {
	var r api.Ring
	for i := range n / 2 {
		r = append(r, api.Point{X: i, Y: i % 2})
	}
	for i := n/2 - 1; i >= 0; i-- {
		r = append(r, api.Point{X: i, Y: 3 + i%2})
	}
	return r
}

// stairs go up from the left to the right, with corners on straight lines.
func stairs(steps int) api.Ring {
	r := api.Ring{{}, {X: 1}, {X: steps}}
	for i := steps; i > 0; i-- {
		r = append(r, api.Point{X: i, Y: i}, api.Point{X: i - 1, Y: i})
	}
	return r
}

func spiral() api.Ring {
	return of(0, 0, 9, 0, 9, 9, 2, 9, 2, 4, 5, 4, 5, 6, 4, 6, 4, 5, 3, 5, 3, 8, 8, 8, 8, 1, 1, 1, 1, 9, 0, 9)
}

// named is a ring that is not sound.
type named struct {
	name string
	ring api.Ring
}

// unsoundByArea have no area above 0.
func unsoundByArea() []named {
	return []named{
		{"no corner", nil},
		{"no corner, not nil", api.Ring{}},
		{"one corner", of(1, 1)},
		{"two corners", of(0, 0, 4, 1)},
		{"two corners that are one", of(3, 3, 3, 3)},
		{"the chapter's: to the right", of(0, 4, 4, 4, 4, 0, 0, 0)},
		{"the chapter's: edges cross", of(0, 0, 4, 4, 4, 0, 0, 4)},
		{"the chapter's: a straight line", of(0, 0, 2, 0, 4, 0)},
		{"a straight line there and back", of(0, 0, 2, 0, 4, 0, 3, 0)},
		{"three corners, two are one", of(0, 0, 4, 0, 4, 0)},
		{"three corners, all are one", of(4, 0, 4, 0, 4, 0)},
		{"edges cross, the greater part to the right", of(0, 0, 0, 9, 9, 9, 9, 4, 10, 4, 10, 5, 8, 5, 8, 0)},
	}
}

// unsoundByEdges have an area above 0: it's their edges, or their corners, that must be looked at.
func unsoundByEdges() []named {
	return []named{
		{"a corner twice, one after the other", of(0, 0, 4, 0, 4, 0, 4, 4, 0, 4)},
		{"a corner twice, last and first", of(0, 0, 4, 0, 4, 4, 0, 4, 0, 0)},
		{"a corner three times, one after the other", of(0, 0, 4, 0, 4, 0, 4, 0, 4, 4, 0, 4)},
		{"four corners, two are one, one after the other", of(0, 0, 4, 0, 4, 0, 4, 4)},
		{"a corner twice, where two parts touch", of(0, 0, 4, 0, 2, 2, 4, 4, 0, 4, 2, 2)},
		{"a corner twice, a hole that touches it", of(0, 0, 8, 0, 8, 8, 4, 8, 6, 2, 2, 2, 4, 8, 0, 8)},
		{"edges cross, the greater part to the left", of(0, 0, 9, 0, 9, 9, 4, 9, 4, 10, 5, 10, 5, 8, 0, 8)},
		{"twice around", of(0, 0, 9, 0, 9, 9, 0, 9, 0, 1, 8, 1, 8, 8, 1, 8, 1, -1, 0, -1)},
		{"a star", of(0, 0, 6, 8, -4, 3, 8, 3, -2, 8)},
		{"a corner within another edge, from inside", of(0, 0, 8, 0, 8, 8, 4, 0, 0, 8)},
		{"a corner within another edge, from outside", of(0, 0, 8, 0, 8, 2, 2, 2, 2, 6, 5, 2, 8, 8, 0, 8)},
		{"two edges overlap in part", of(0, 0, 6, 0, 6, 2, 10, 2, 9, 0, 3, 0, 3, -5, 14, -5, 14, 8, 0, 8)},
		{"two edges overlap, the one within the other", of(0, 0, 9, 0, 9, 5, 6, 5, 6, 0, 3, 0, 3, 5, 0, 5)},
		{"two edges are one, there and back", of(0, 0, 4, 0, 4, 4, 2, 4, 2, 6, 2, 4, 0, 4)},
		{"an edge back over the one ahead, shorter", of(0, 0, 4, 0, 4, 8, 4, 4, 0, 4)},
		{"an edge back over the one ahead, longer", of(0, 0, 4, 0, 4, 4, 6, 4, 0, 4)},
		{"the first edge back over the last", of(4, 8, 4, 4, 0, 4, 0, 0, 4, 0)},
	}
}

func unsoundRings() []named {
	return append(unsoundByArea(), unsoundByEdges()...)
}

func check(t *testing.T, what string, r api.Ring, want api.Errno) {
	t.Helper()
	if e := Check(r); e != want {
		t.Fatalf("Check of %s: error %d, want %d", what, e, want)
	}
}

func side(t *testing.T, r api.Ring, p api.Point) int {
	t.Helper()
	n, e := Side(r, p)
	if e != api.OK {
		t.Fatalf("Side(%v, %v): error %d", r, p, e)
	}
	return n
}

// refused asks for one error, beside zero results, of all that look at a ring.
func refused(t *testing.T, what string, r api.Ring, p api.Point, want api.Errno) {
	t.Helper()
	check(t, what, r, want)
	if n, e := Side(r, p); n != 0 || e != want {
		t.Errorf("Side of %s, %v: %d, error %d, want error %d", what, p, n, e, want)
	}
	if other, e := Norm(r); len(other) != 0 || e != want {
		t.Errorf("Norm of %s: %v, error %d, want error %d", what, other, e, want)
	}
}

func area(t *testing.T, r api.Ring, want api.Int) {
	t.Helper()
	if n, e := Area(r); n != want || e != api.OK {
		t.Fatalf("Area(%v): %v, error %d, want %v", r, n, e, want)
	}
}

func TestChapterExample(t *testing.T) {
	r := of(0, 0, 4, 0, 4, 4, 0, 4)
	check(t, "the square", r, api.OK)
	area(t, r, wide.Of(32))
	for p, want := range map[api.Point]int{{X: 2, Y: 2}: 1, {X: 4, Y: 1}: 0, {X: 5, Y: -1}: -1} {
		if n := side(t, r, p); n != want {
			t.Errorf("Side of %v: %d, want %d", p, n, want)
		}
	}
	check(t, "the square turned", Turned(r), api.ErrRing)
	check(t, "a bow", of(0, 0, 4, 4, 4, 0, 0, 4), api.ErrRing)
	check(t, "a line", of(0, 0, 2, 0, 4, 0), api.ErrRing)
}

// All rings of up to 6 corners on the small grid, as they are, and drawn out to the limits.
func TestAllSmallRings(t *testing.T) {
	for n := range 7 {
		found := map[api.Errno]int{}
		eachSmallRing(n, func(r api.Ring) {
			want := expectedCheck(r)
			found[want]++
			check(t, fmt.Sprint(r), r, want)
			area(t, r, wide.Of(expectedArea(r)))
			if n < 6 {
				atLimits := mapped(r, func(c int) int { return (c - 1) * limit })
				check(t, fmt.Sprint(atLimits), atLimits, want)
				area(t, atLimits, wide.Mul(expectedArea(atSmall(r)), limit*limit))
			}
		})
		if found[api.ErrRing] == 0 || (found[api.OK] > 0) != (n >= 3) {
			t.Errorf("of %d corners: %v", n, found)
		}
	}
}

func atSmall(r api.Ring) api.Ring {
	return mapped(r, func(c int) int { return c - 1 })
}

// Each place of the grid around each sound ring, the corners doubled so that there are places between them; and the same drawn out to the limits.
func TestSideOfAllPlaces(t *testing.T) {
	seen := map[int]int{}
	for _, r := range soundRings() {
		double := mapped(r, func(c int) int { return 2 * c })
		reach := 0
		for _, p := range double {
			reach = max(reach, p.X, p.Y)
		}
		for x := -1; x <= reach+1; x++ {
			for y := -1; y <= reach+1; y++ {
				p := api.Point{X: x, Y: y}
				want := expectedSide(double, p)
				seen[want]++
				if n := side(t, double, p); n != want {
					t.Fatalf("Side(%v, %v): %d, want %d", double, p, n, want)
				}
				sideAtLimits(t, double, p, want)
			}
		}
	}
	for _, n := range []int{-1, 0, 1} {
		if seen[n] == 0 {
			t.Errorf("no place has Side %d", n)
		}
	}
}

// sideAtLimits takes rings of the small grid, doubled: they reach to 4.
func sideAtLimits(t *testing.T, double api.Ring, p api.Point, want int) {
	t.Helper()
	if len(double) > 5 || p.X < 0 || p.X > 4 || p.Y < 0 || p.Y > 4 {
		return
	}
	far := func(c int) int { return (c - 2) * (limit / 2) }
	r, q := mapped(double, far), mapped(api.Ring{p}, far)[0]
	if n := side(t, r, q); n != want {
		t.Fatalf("Side(%v, %v): %d, want %d", r, q, n, want)
	}
}

// P3.1

func TestUnsoundRings(t *testing.T) {
	for _, c := range unsoundRings() {
		if expectedSound(c.ring) {
			t.Errorf("%s: the ring is sound", c.name)
		}
		area(t, c.ring, wide.Of(expectedArea(c.ring)))
		refused(t, c.name, c.ring, api.Point{X: 1, Y: 1}, api.ErrRing)
		for at := range c.ring {
			refused(t, c.name, begun(c.ring, at), api.Point{X: 1, Y: 1}, api.ErrRing)
		}
		check(t, c.name+", turned", backward(c.ring), expectedCheck(backward(c.ring)))
	}
	for _, c := range unsoundByEdges() {
		if expectedArea(c.ring) <= 0 {
			t.Errorf("%s: the area is %d", c.name, expectedArea(c.ring))
		}
	}
}

func TestSoundRings(t *testing.T) {
	for _, r := range soundRings() {
		check(t, fmt.Sprint(r), r, api.OK)
		area(t, r, wide.Of(expectedArea(r)))
		check(t, fmt.Sprint("turned ", r), backward(r), api.ErrRing)
		area(t, backward(r), wide.Of(-expectedArea(r)))
	}
}

func TestCornersOnStraightLines(t *testing.T) {
	var r api.Ring
	const n = api.MaxPoints / 4
	for i := range n {
		r = append(r, api.Point{X: i})
	}
	for i := range n {
		r = append(r, api.Point{X: n, Y: i})
	}
	for i := range n {
		r = append(r, api.Point{X: n - i, Y: n})
	}
	for i := range n {
		r = append(r, api.Point{Y: n - i})
	}
	check(t, "a square with corners all along", r, api.OK)
	area(t, r, wide.Of(2*n*n))
	for p, want := range map[api.Point]int{{X: 5}: 0, {X: 5, Y: 5}: 1, {X: n, Y: n}: 0, {X: n + 1, Y: n}: -1, {X: -1, Y: 5}: -1, {X: -1}: -1, {X: -1, Y: n}: -1} {
		if got := side(t, r, p); got != want {
			t.Errorf("Side of %v: %d, want %d", p, got, want)
		}
	}
}

func TestAsManyCornersAsThereMayBe(t *testing.T) {
	r := comb(api.MaxPoints)
	if !expectedSound(r) {
		t.Fatal("the comb is not sound")
	}
	for _, at := range []int{0, 1, 64, 127} {
		check(t, "MaxPoints corners", begun(r, at), api.OK)
	}
	area(t, r, wide.Of(expectedArea(r)))
	if n := side(t, r, api.Point{X: 30, Y: 2}); n != 1 {
		t.Errorf("Side within: %d", n)
	}
	if other, e := Norm(begun(r, 77)); !slices.Equal(other, r) || e != api.OK {
		t.Errorf("Norm: %v, error %d", other, e)
	}
	// Each place of the ring is looked at: a corner, set down on the opposite side, spoils it.
	for i := range r {
		spoilt := slices.Clone(r)
		spoilt[i].Y = 3 - r[i].Y
		check(t, fmt.Sprint("corner ", i, " set down elsewhere"), spoilt, expectedCheck(spoilt))
	}
	refused(t, "MaxPoints corners to the right", backward(r), api.Point{}, api.ErrRing)
}

func TestMoreCornersThanThereMayBe(t *testing.T) {
	bad := append(comb(api.MaxPoints), api.Point{X: limit + 1})
	for what, r := range map[string]api.Ring{
		"one corner too many":             append(comb(api.MaxPoints), api.Point{X: -1, Y: 2}),
		"two corners too many":            comb(api.MaxPoints + 2),
		"one too many, which is not Good": bad,
		"one too many, and not sound":     make(api.Ring, api.MaxPoints+1),
		"very many":                       make(api.Ring, 100_000),
	} {
		for _, p := range []api.Point{{}, {X: math.MinInt}} {
			refused(t, what, r, p, api.ErrLarge)
		}
		if n, e := Area(r); n != (api.Int{}) || e != api.ErrLarge {
			t.Errorf("Area of %s: %v, error %d", what, n, e)
		}
	}
	area(t, make(api.Ring, api.MaxPoints), api.Int{})
}

func TestCornersAtTheLimits(t *testing.T) {
	r := of(-limit, -limit, limit, -limit, limit, limit, -limit, limit)
	check(t, "all that is Good", r, api.OK)
	area(t, r, api.Int{Lo: 1 << 63})
	area(t, Turned(r), api.Int{Hi: -1, Lo: 1 << 63})
	for p, want := range map[api.Point]int{{}: 1, {X: limit}: 0, {X: -limit, Y: -limit}: 0, {X: limit - 1, Y: 1 - limit}: 1} {
		if n := side(t, r, p); n != want {
			t.Errorf("Side of %v: %d, want %d", p, n, want)
		}
	}
	// 32 times around is not sound, but has an area, that no machine number holds.
	often := api.Ring(slices.Repeat(r, api.MaxPoints/4))
	area(t, often, api.Int{Hi: 16})
	area(t, Turned(often), api.Int{Hi: -16})
	check(t, "32 times around", often, api.ErrRing)
}

func TestCornersBeyondTheLimits(t *testing.T) {
	sound := of(-limit, -limit, limit, -limit, limit, limit, -limit, limit)
	for _, r := range []api.Ring{sound, of(1, 1), of(0, 0, 4, 0), of(0, 0, 2, 0, 4, 0), Turned(sound), comb(api.MaxPoints)} {
		for at := range r {
			for _, n := range []int{limit + 1, -limit - 1, math.MaxInt, math.MinInt} {
				for _, p := range []api.Point{{X: n}, {Y: n}, {X: n, Y: n}} {
					bad := slices.Clone(r)
					bad[at] = p
					refused(t, fmt.Sprint(bad), bad, api.Point{}, api.ErrRange)
					if n, e := Area(bad); n != (api.Int{}) || e != api.ErrRange {
						t.Errorf("Area of %v: %v, error %d", bad, n, e)
					}
				}
			}
		}
	}
}

// The long edge passes (0, 0) and (1, 0) by less than a step, between them.
func TestNarrowPlaces(t *testing.T) {
	check(t, "a sliver", of(-limit, -limit, limit, limit-1, limit, limit), api.OK)
	area(t, of(-limit, -limit, limit, limit-1, limit, limit), wide.Of(2*limit))
	check(t, "a sliver turned", of(-limit, -limit, limit, limit, limit, limit-1), api.ErrRing)
	check(t, "a corner just beside an edge", of(-limit, -limit, limit, limit-1, limit, limit, 0, 0), api.OK)
	check(t, "a corner just across an edge", of(-limit, -limit, limit, limit-1, limit, limit, 1, 0), api.ErrRing)
	half := of(-limit, -limit, limit, limit-1, -limit, limit)
	for p, want := range map[api.Point]int{{}: 1, {X: 1}: -1, {X: limit - 1, Y: limit - 1}: 1, {X: limit - 1, Y: limit}: -1, {X: limit - 1, Y: limit - 2}: -1, {X: limit, Y: limit - 1}: 0} {
		if n := side(t, half, p); n != want {
			t.Errorf("Side of %v: %d, want %d", p, n, want)
		}
	}
}

// P3.2

func TestSideOfPointsThatAreNotGood(t *testing.T) {
	r := of(0, 0, 4, 0, 4, 4, 0, 4)
	for _, n := range []int{limit + 1, -limit - 1, math.MaxInt, math.MinInt} {
		for _, p := range []api.Point{{X: n}, {Y: n}, {X: n, Y: n}, {X: 2, Y: n}} {
			if got, e := Side(r, p); got != 0 || e != api.ErrRange {
				t.Errorf("Side of %v: %d, error %d", p, got, e)
			}
			for _, c := range unsoundRings() {
				if got, e := Side(c.ring, p); got != 0 || e != api.ErrRing {
					t.Errorf("Side of %v, %s: %d, error %d", p, c.name, got, e)
				}
			}
		}
	}
	for _, p := range []api.Point{{X: limit, Y: limit}, {X: -limit, Y: 2}, {X: limit, Y: 4}, {X: 4, Y: -limit}} {
		if n := side(t, r, p); n != -1 {
			t.Errorf("Side of %v: %d", p, n)
		}
	}
}

// Points level with a corner where the ring goes on through the level, turns round above or below it, or runs along it.
func TestSideLevelWithCorners(t *testing.T) {
	r := of(0, 0, 4, 4, 8, 0, 12, 4, 16, 4, 20, 0, 20, 8, 12, 8, 8, 4, 4, 8, 0, 8)
	check(t, "hills", r, api.OK)
	for p, want := range map[api.Point]int{
		{X: -1}: -1, {X: 4}: -1, {X: 9}: -1, {X: 21}: -1, {X: 8}: 0,
		{X: -1, Y: 4}: -1, {X: 1, Y: 4}: 1, {X: 3, Y: 4}: 1, {X: 4, Y: 4}: 0, {X: 6, Y: 4}: 1, {X: 8, Y: 4}: 0, {X: 10, Y: 4}: 1, {X: 14, Y: 4}: 0, {X: 18, Y: 4}: 1, {X: 21, Y: 4}: -1,
		{X: -1, Y: 8}: -1, {X: 2, Y: 8}: 0, {X: 8, Y: 8}: -1, {X: 16, Y: 8}: 0, {X: 21, Y: 8}: -1,
		{X: 9, Y: 2}: 1, {X: 15, Y: 3}: -1, {X: 8, Y: 6}: -1, {X: 5, Y: 6}: 1,
	} {
		if expectedSide(r, p) != want {
			t.Errorf("the other reckoning has not %d for %v", want, p)
		}
		if n := side(t, r, p); n != want {
			t.Errorf("Side of %v: %d, want %d", p, n, want)
		}
	}
}

func TestSideOfEachCorner(t *testing.T) {
	for _, r := range soundRings() {
		for _, p := range r {
			if n := side(t, r, p); n != 0 {
				t.Fatalf("Side(%v, %v): %d", r, p, n)
			}
		}
	}
}

// A sound ring, begun at each of its corners, has the same area, the same sides and the same Norm.
func TestBegunAnywhere(t *testing.T) {
	for _, r := range soundRings() {
		first := begun(r, least(r))
		places := append(slices.Clone(r), of(-1, 0, 0, 1, 1, 1, 2, 2, 1, 2, 3, 3, 0, 2)...)
		for at := range r {
			other := begun(r, at)
			check(t, fmt.Sprint(other), other, api.OK)
			area(t, other, wide.Of(expectedArea(r)))
			if got, e := Norm(other); !slices.Equal(got, first) || e != api.OK {
				t.Fatalf("Norm(%v): %v, error %d, want %v", other, got, e, first)
			}
			for _, p := range places {
				if n, want := side(t, other, p), expectedSide(r, p); n != want {
					t.Fatalf("Side(%v, %v): %d, want %d", other, p, n, want)
				}
			}
		}
	}
}

func TestNormBeginsByXThenY(t *testing.T) {
	for _, c := range []struct{ ring, want api.Ring }{
		{of(4, 0, 0, 9, -1, 5, -1, 4), of(-1, 4, 4, 0, 0, 9, -1, 5)},
		{of(0, 4, 0, 0, 4, 0, 4, 4), of(0, 0, 4, 0, 4, 4, 0, 4)},
		{of(3, -7, 5, 0, 0, 8), of(0, 8, 3, -7, 5, 0)},
		{of(-limit, limit, limit, -limit, limit, limit), of(-limit, limit, limit, -limit, limit, limit)},
		{of(0, 0, 0, -3, 6, 0, 0, 2), of(0, -3, 6, 0, 0, 2, 0, 0)},
	} {
		if got, e := Norm(c.ring); !slices.Equal(got, c.want) || e != api.OK {
			t.Errorf("Norm(%v): %v, error %d, want %v", c.ring, got, e, c.want)
		}
	}
}

// Turned takes any corners: too many, beyond the limits, twice, none.
func TestTurned(t *testing.T) {
	list := append(soundRings(), nil, api.Ring{}, make(api.Ring, 1000), comb(api.MaxPoints+2), of(limit+1, 0), of(math.MinInt, math.MaxInt, 1, 2, 1, 2))
	for _, c := range unsoundRings() {
		list = append(list, c.ring)
	}
	for _, r := range list {
		if got := Turned(r); !slices.Equal(got, backward(r)) {
			t.Fatalf("Turned(%v): %v", r, got)
		}
		if got := Turned(Turned(r)); !slices.Equal(got, r) {
			t.Fatalf("turned twice, %v is %v", r, got)
		}
	}
}

func TestTurnedOfSoundIsNone(t *testing.T) {
	for _, r := range soundRings() {
		refused(t, fmt.Sprint("turned ", r), Turned(r), r[0], api.ErrRing)
		check(t, "turned twice", Turned(Turned(r)), api.OK)
	}
}

// What is handed in stays as it is, its spare room too; sound or not, and whatever is answered.
func TestArgumentsStay(t *testing.T) {
	list := append(soundRings(), comb(api.MaxPoints+2), of(0, 0, limit+1, 0, 4, 4))
	for _, c := range unsoundRings() {
		list = append(list, c.ring)
	}
	for _, r := range list {
		room := append(slices.Clone(r), of(7, 7, 8, 8, 9, 9)...)
		was := slices.Clone(room)
		r := room[:len(r)]
		Check(r)
		Area(r)
		Side(r, api.Point{X: 1, Y: 1})
		Side(r, api.Point{X: limit + 1})
		other, _ := Norm(r)
		spoil(other)
		spoil(Turned(r))
		if !slices.Equal(room, was) {
			t.Fatalf("%v is now %v", was, room)
		}
	}
}

// spoil writes over all of an answer, spare room too: it must be memory of its own.
func spoil(r api.Ring) {
	r = r[:cap(r)]
	for i := range r {
		r[i] = api.Point{X: -77, Y: -77}
	}
}

func TestAnswersShareNothing(t *testing.T) {
	r := of(0, 0, 4, 0, 4, 4, 0, 4)
	one, _ := Norm(r)
	two, _ := Norm(r)
	spoil(one)
	if !slices.Equal(two, r) {
		t.Errorf("Norm's answer became %v", two)
	}
	three, four := Turned(r), Turned(r)
	spoil(three)
	if !slices.Equal(four, backward(r)) {
		t.Errorf("Turned's answer became %v", four)
	}
	five, _ := Norm(r)
	if !slices.Equal(five, r) || !slices.Equal(Turned(r), backward(r)) {
		t.Error("another call has another answer")
	}
}
