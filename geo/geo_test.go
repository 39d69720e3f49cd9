package geo

import (
	"math"
	"math/big"
	"slices"
	"testing"

	"merestone/api"
	"merestone/wide"
)

// The calls as the chapter lists them: this does not compile if one is another.
var (
	_ func(...api.Point) bool                                           = Good
	_ func(api.Point, api.Point, api.Point) (api.Int, api.Errno)        = Cross
	_ func(api.Point, api.Point, api.Point) (int, api.Errno)            = Turn
	_ func(api.Point, api.Point, api.Point) (bool, api.Errno)           = On
	_ func(api.Point, api.Point, api.Point, api.Point) (int, api.Errno) = Meet
	_ func(api.Point, api.Point) (api.Int, api.Errno)                   = Square
)

const limit = api.MaxCoord

// smallGrid has points enough for each way in which two stretches can lie to one another.
func smallGrid() []api.Point {
	var list []api.Point
	for x := -1; x <= 3; x++ {
		for y := 0; y <= 3; y++ {
			list = append(list, api.Point{X: x, Y: y})
		}
	}
	return list
}

// farPoints are Good points at and around the limits: what doesn't reckon exactly errs with them.
func farPoints() []api.Point {
	list := []api.Point{{}, {X: 1}, {X: limit / 2, Y: limit / 2}, {X: limit - 1, Y: 1 - limit}, {X: 1 - limit, Y: limit - 2}}
	for _, x := range []int{-limit, 1 - limit, 0, limit - 1, limit} {
		for _, y := range []int{-limit, limit - 1, limit} {
			list = append(list, api.Point{X: x, Y: y})
		}
	}
	return list
}

// badPoints are beyond the limits in X, in Y or in both, by one or by far.
func badPoints() []api.Point {
	list := []api.Point{{X: limit + 1, Y: limit + 1}, {X: math.MinInt, Y: math.MaxInt}}
	for _, n := range []int{limit + 1, -limit - 1, math.MaxInt32 + 1, math.MaxInt, math.MinInt} {
		list = append(list, api.Point{X: n}, api.Point{Y: n})
	}
	return list
}

func toBig(a api.Int) *big.Int {
	n := new(big.Int).Lsh(big.NewInt(a.Hi), 64)
	return n.Add(n, new(big.Int).SetUint64(a.Lo))
}

func times(a, b int) *big.Int {
	return new(big.Int).Mul(big.NewInt(int64(a)), big.NewInt(int64(b)))
}

// bigCross is the chapter's formula in big numbers.
func bigCross(a, b, c api.Point) *big.Int {
	return new(big.Int).Sub(times(b.X-a.X, c.Y-a.Y), times(b.Y-a.Y, c.X-a.X))
}

func inUnit(r *big.Rat) bool {
	return r.Sign() >= 0 && r.Cmp(big.NewRat(1, 1)) <= 0
}

// share answers which part of the way from a to b leads to p, for a p in line with them; along the axis in which a and b differ.
func share(a, b, p api.Point) *big.Rat {
	if a.X != b.X {
		return big.NewRat(int64(p.X-a.X), int64(b.X-a.X))
	}
	return big.NewRat(int64(p.Y-a.Y), int64(b.Y-a.Y))
}

// bigOn is On by the share of the way.
func bigOn(a, b, p api.Point) bool {
	if a == b {
		return p == a
	}
	return bigCross(a, b, p).Sign() == 0 && inUnit(share(a, b, p))
}

func truth(yes bool, then, otherwise int) int {
	if yes {
		return then
	}
	return otherwise
}

// bigMeet is Meet by solving for the common point, and in one line by cutting the one stretch's shares to the other's.
func bigMeet(a, b, c, d api.Point) int {
	switch {
	case a == b:
		return truth(bigOn(c, d, a), 1, 0)
	case c == d:
		return truth(bigOn(a, b, c), 1, 0)
	}
	det := new(big.Int).Sub(times(b.X-a.X, d.Y-c.Y), times(b.Y-a.Y, d.X-c.X))
	if det.Sign() != 0 {
		return solved(a, b, c, d, det)
	}
	if bigCross(a, b, c).Sign() != 0 {
		return 0
	}
	from, to := share(a, b, c), share(a, b, d)
	if from.Cmp(to) > 0 {
		from, to = to, from
	}
	if from.Sign() < 0 {
		from = new(big.Rat)
	}
	if to.Cmp(big.NewRat(1, 1)) > 0 {
		to = big.NewRat(1, 1)
	}
	return []int{3, 1, 0}[from.Cmp(to)+1]
}

// solved is bigMeet for stretches that are not parallel: a + t (b - a) = c + u (d - c).
func solved(a, b, c, d api.Point, det *big.Int) int {
	t := new(big.Rat).SetFrac(new(big.Int).Sub(times(c.X-a.X, d.Y-c.Y), times(c.Y-a.Y, d.X-c.X)), det)
	u := new(big.Rat).SetFrac(new(big.Int).Sub(times(c.X-a.X, b.Y-a.Y), times(c.Y-a.Y, b.X-a.X)), det)
	if !inUnit(t) || !inUnit(u) {
		return 0
	}
	return truth(isEnd(t) || isEnd(u), 1, 2)
}

func isEnd(r *big.Rat) bool {
	return r.Sign() == 0 || r.Cmp(big.NewRat(1, 1)) == 0
}

func meet(t *testing.T, a, b, c, d api.Point) int {
	t.Helper()
	n, e := Meet(a, b, c, d)
	if e != api.OK {
		t.Fatalf("Meet(%v, %v, %v, %v): error %d", a, b, c, d, e)
	}
	return n
}

func TestGood(t *testing.T) {
	if !Good() || !Good([]api.Point{}...) {
		t.Error("no points: none of them is beyond a limit")
	}
	good, bad := append(farPoints(), smallGrid()...), badPoints()
	if !Good(good...) {
		t.Error("all good points together are not Good")
	}
	for _, p := range good {
		if !Good(p) {
			t.Errorf("Good(%v) is false", p)
		}
	}
	for _, p := range bad {
		if Good(p) {
			t.Errorf("Good(%v) is true", p)
		}
		for at := range len(good) + 1 {
			if Good(slices.Insert(slices.Clone(good), at, p)...) {
				t.Fatalf("Good is true with %v at place %d", p, at)
			}
		}
	}
}

func TestGoodLeavesItsListAlone(t *testing.T) {
	room := append(farPoints(), badPoints()...)
	was := slices.Clone(room)
	Good(room[:5]...)
	Good(room...)
	if !slices.Equal(room, was) {
		t.Errorf("the list is now %v", room)
	}
}

// A point beyond the limits is refused in each place of each call, with zero results, also where another one or all are bad.
func TestRefused(t *testing.T) {
	for _, p := range badPoints() {
		for mask := 1; mask < 1<<4; mask++ {
			at := [4]api.Point{{X: 5}, {X: 5}, {X: 5}, {X: 5}}
			for i := range at {
				if mask>>i&1 == 1 {
					at[i] = p
				}
			}
			if n, e := Meet(at[0], at[1], at[2], at[3]); n != 0 || e != api.ErrRange {
				t.Errorf("Meet of %v: %d, error %d", at, n, e)
			}
			refusedThree(t, at[:3], mask&7 != 0)
			refusedTwo(t, at[:2], mask&3 != 0)
		}
	}
}

func refusedThree(t *testing.T, at []api.Point, bad bool) {
	t.Helper()
	if !bad {
		return
	}
	if n, e := Cross(at[0], at[1], at[2]); n != (api.Int{}) || e != api.ErrRange {
		t.Errorf("Cross of %v: %v, error %d", at, n, e)
	}
	if n, e := Turn(at[0], at[1], at[2]); n != 0 || e != api.ErrRange {
		t.Errorf("Turn of %v: %d, error %d", at, n, e)
	}
	if yes, e := On(at[0], at[1], at[2]); yes || e != api.ErrRange {
		t.Errorf("On of %v: %v, error %d", at, yes, e)
	}
}

func refusedTwo(t *testing.T, at []api.Point, bad bool) {
	t.Helper()
	if !bad {
		return
	}
	if n, e := Square(at[0], at[1]); n != (api.Int{}) || e != api.ErrRange {
		t.Errorf("Square of %v: %v, error %d", at, n, e)
	}
}

// All threes of points, in each order, those with points twice among them.
func TestThreePoints(t *testing.T) {
	for _, points := range [][]api.Point{smallGrid(), farPoints()} {
		for _, a := range points {
			for _, b := range points {
				for _, c := range points {
					checkThree(t, a, b, c)
				}
			}
		}
	}
}

func checkThree(t *testing.T, a, b, c api.Point) {
	t.Helper()
	want := bigCross(a, b, c)
	if n, e := Cross(a, b, c); e != api.OK || toBig(n).Cmp(want) != 0 {
		t.Fatalf("Cross(%v, %v, %v): %v, error %d, want %v", a, b, c, n, e, want)
	}
	if n, e := Turn(a, b, c); e != api.OK || n != want.Sign() {
		t.Fatalf("Turn(%v, %v, %v): %d, error %d, want %d", a, b, c, n, e, want.Sign())
	}
	if yes, e := On(a, b, c); e != api.OK || yes != bigOn(a, b, c) {
		t.Fatalf("On(%v, %v, %v): %v, error %d, want %v", a, b, c, yes, e, bigOn(a, b, c))
	}
}

func TestTurnSides(t *testing.T) {
	for want, c := range map[int]api.Point{1: {X: 1, Y: 1}, 0: {X: 7}, -1: {X: 1, Y: -1}} {
		if n, e := Turn(api.Point{}, api.Point{X: 2}, c); n != want || e != api.OK {
			t.Errorf("Turn to %v: %d, error %d", c, n, e)
		}
	}
	if n, e := Turn(api.Point{X: 3}, api.Point{X: 3}, api.Point{Y: 8}); n != 0 || e != api.OK {
		t.Errorf("Turn of a way that goes nowhere: %d, error %d", n, e)
	}
}

// The greatest numbers that the calls answer: the square is one that a machine number doesn't hold.
func TestCrossAtTheLimits(t *testing.T) {
	a, b, c := api.Point{X: -limit, Y: -limit}, api.Point{X: limit, Y: -limit}, api.Point{X: limit, Y: limit}
	if n, e := Cross(a, b, c); n != (api.Int{Lo: 1 << 62}) || e != api.OK {
		t.Errorf("Cross: %v, error %d", n, e)
	}
	if n, e := Cross(b, a, c); n != (api.Int{Hi: -1, Lo: math.MaxUint64 - 1<<62 + 1}) || e != api.OK {
		t.Errorf("Cross: %v, error %d", n, e)
	}
	if n, e := Square(a, c); n != (api.Int{Lo: 1 << 63}) || e != api.OK {
		t.Errorf("Square: %v, error %d", n, e)
	}
}

func TestOnEdges(t *testing.T) {
	a, b := api.Point{X: 1, Y: 2}, api.Point{X: 5, Y: 4}
	for p, want := range map[api.Point]bool{a: true, b: true, {X: 3, Y: 3}: true, {X: 4, Y: 3}: false, {X: 2, Y: 3}: false, {X: 7, Y: 5}: false, {X: -1, Y: 1}: false} {
		for _, ends := range [][2]api.Point{{a, b}, {b, a}} {
			if yes, e := On(ends[0], ends[1], p); yes != want || e != api.OK {
				t.Errorf("On(%v, %v, %v): %v, error %d", ends[0], ends[1], p, yes, e)
			}
		}
	}
	if yes, _ := On(a, a, a); !yes {
		t.Error("a point alone has itself")
	}
	for _, p := range []api.Point{b, {X: 1, Y: 3}, {X: 0, Y: 2}, {}} {
		if yes, e := On(a, a, p); yes || e != api.OK {
			t.Errorf("a point alone has %v, error %d", p, e)
		}
	}
}

func TestSquare(t *testing.T) {
	points := append(farPoints(), smallGrid()...)
	for _, a := range points {
		for _, b := range points {
			want := new(big.Int).Add(times(b.X-a.X, b.X-a.X), times(b.Y-a.Y, b.Y-a.Y))
			if n, e := Square(a, b); e != api.OK || toBig(n).Cmp(want) != 0 {
				t.Fatalf("Square(%v, %v): %v, error %d, want %v", a, b, n, e, want)
			}
		}
	}
	if n, e := Square(api.Point{X: 1, Y: 1}, api.Point{X: 4, Y: -3}); n != wide.Of(25) || e != api.OK {
		t.Errorf("Square: %v, error %d", n, e)
	}
}

// All fours of points, in each order, those with points twice among them.
func TestFourPoints(t *testing.T) {
	seen := map[int]int{}
	for _, points := range [][]api.Point{smallGrid(), farPoints()} {
		for _, a := range points {
			for _, b := range points {
				for _, c := range points {
					for _, d := range points {
						n := meet(t, a, b, c, d)
						if want := bigMeet(a, b, c, d); n != want {
							t.Fatalf("Meet(%v, %v, %v, %v): %d, want %d", a, b, c, d, n, want)
						}
						seen[n]++
					}
				}
			}
		}
	}
	for n := range 4 {
		if seen[n] == 0 {
			t.Errorf("no four points have Meet %d", n)
		}
	}
}

// meetCase is named by how the stretches lie; want holds in each order of ends and stretches.
type meetCase struct {
	name string
	at   [4]api.Point
	want int
}

func meetCases() []meetCase {
	return []meetCase{
		{"the chapter's: they cross", [4]api.Point{{}, {X: 4, Y: 4}, {Y: 4}, {X: 4}}, 2},
		{"the chapter's: an end within", [4]api.Point{{}, {X: 4}, {X: 2}, {X: 2, Y: 5}}, 1},
		{"the chapter's: they overlap", [4]api.Point{{}, {X: 4}, {X: 3}, {X: 9}}, 3},
		{"the chapter's: apart in one line", [4]api.Point{{}, {X: 4}, {X: 5}, {X: 9}}, 0},
		{"an end that both have, with a corner", [4]api.Point{{}, {X: 4}, {X: 4}, {X: 6, Y: 3}}, 1},
		{"an end that both have, in one line", [4]api.Point{{}, {X: 4, Y: 2}, {X: 4, Y: 2}, {X: 8, Y: 4}}, 1},
		{"the same stretch", [4]api.Point{{X: 1, Y: 1}, {X: 4, Y: 2}, {X: 1, Y: 1}, {X: 4, Y: 2}}, 3},
		{"one within the other, with an end in common", [4]api.Point{{}, {X: 9}, {}, {X: 3}}, 3},
		{"one within the other's inside", [4]api.Point{{}, {Y: 9}, {Y: 2}, {Y: 3}}, 3},
		{"parallel", [4]api.Point{{}, {X: 4}, {Y: 1}, {X: 4, Y: 1}}, 0},
		{"the one's line meets the other beyond its ends", [4]api.Point{{}, {X: 4}, {X: 6, Y: -1}, {X: 6, Y: 1}}, 0},
		{"an end in line with the other, beyond its ends", [4]api.Point{{}, {X: 4}, {X: 6}, {X: 6, Y: 1}}, 0},
		{"they would cross, were the one longer", [4]api.Point{{}, {X: 4}, {X: 2, Y: 1}, {X: 2, Y: 5}}, 0},
		{"a point alone, within", [4]api.Point{{X: 2, Y: 1}, {X: 2, Y: 1}, {}, {X: 4, Y: 2}}, 1},
		{"a point alone, at an end", [4]api.Point{{X: 4, Y: 2}, {X: 4, Y: 2}, {}, {X: 4, Y: 2}}, 1},
		{"a point alone, beside", [4]api.Point{{X: 2, Y: 2}, {X: 2, Y: 2}, {}, {X: 4, Y: 2}}, 0},
		{"a point alone, in line beyond", [4]api.Point{{X: 6, Y: 3}, {X: 6, Y: 3}, {}, {X: 4, Y: 2}}, 0},
		{"two points alone, the same", [4]api.Point{{X: 6}, {X: 6}, {X: 6}, {X: 6}}, 1},
		{"two points alone, others", [4]api.Point{{X: 6}, {X: 6}, {X: 7}, {X: 7}}, 0},
		{"they cross at the limits", [4]api.Point{{X: -limit, Y: -limit}, {X: limit, Y: limit}, {X: -limit, Y: limit}, {X: limit, Y: -limit}}, 2},
		{"nearly in one line, across each other", [4]api.Point{{X: -limit, Y: -limit}, {X: limit, Y: limit}, {X: -limit + 1, Y: -limit}, {X: limit - 1, Y: limit}}, 2},
		{"nearly in one line, apart", [4]api.Point{{X: -limit, Y: -limit}, {X: limit, Y: limit}, {X: -limit + 1, Y: -limit}, {X: limit, Y: limit - 1}}, 0},
		{"an end half a step above the other, from below", [4]api.Point{{X: -limit, Y: -limit}, {X: limit, Y: limit - 1}, {}, {X: limit, Y: -limit}}, 2},
		{"an end half a step above the other, from above", [4]api.Point{{X: -limit, Y: -limit}, {X: limit, Y: limit - 1}, {}, {X: -limit, Y: limit}}, 0},
	}
}

func TestMeetHowTheyLie(t *testing.T) {
	for _, c := range meetCases() {
		for _, o := range [][4]int{{0, 1, 2, 3}, {1, 0, 2, 3}, {0, 1, 3, 2}, {1, 0, 3, 2}, {2, 3, 0, 1}, {3, 2, 0, 1}, {2, 3, 1, 0}, {3, 2, 1, 0}} {
			if n := meet(t, c.at[o[0]], c.at[o[1]], c.at[o[2]], c.at[o[3]]); n != c.want {
				t.Errorf("%s, in the order %v: %d, want %d", c.name, o, n, c.want)
			}
		}
	}
}

func TestChapterExample(t *testing.T) {
	if n, e := Turn(api.Point{}, api.Point{X: 2}, api.Point{X: 1, Y: 1}); n != 1 || e != api.OK {
		t.Errorf("Turn: %d, error %d", n, e)
	}
}
