package query_test

import (
	"fmt"
	"math/big"
	"slices"
	"testing"

	"merestone/api"
	"merestone/geo"
	"merestone/query"
)

// made is New of a plan that has to be sound.
func made(t *testing.T, what string, p api.Plan) *query.Index {
	t.Helper()
	x, e := query.New(p)
	if x == nil || e != api.OK {
		t.Fatalf("%s: New is refused, %d", what, e)
	}
	return x
}

// What is wanted of each call. An error comes alone.

func giveLocate(t *testing.T, what string, x *query.Index, p api.Point, want []int) {
	t.Helper()
	if got, e := x.Locate(p); !slices.Equal(got, want) || e != api.OK {
		t.Errorf("%s: Locate(%v): %v, %d, not %v", what, p, got, e, want)
	}
}

func giveWindow(t *testing.T, what string, x *query.Index, w api.Window, want []int) {
	t.Helper()
	if got, e := x.Window(w); !slices.Equal(got, want) || e != api.OK {
		t.Errorf("%s: Window(%v): %v, %d, not %v", what, w, got, e, want)
	}
}

func givePairs(t *testing.T, what string, x *query.Index, want []api.Pair) {
	t.Helper()
	if got, e := x.Pairs(); !slices.Equal(got, want) || e != api.OK {
		t.Errorf("%s: Pairs: %v, %d, not %v", what, got, e, want)
	}
}

func giveBorder(t *testing.T, what string, x *query.Index, a, b int, want []api.Edge) {
	t.Helper()
	if got, lengths, e := x.Border(a, b); !slices.Equal(got, want) || !slices.Equal(lengths, lengthsOf(want)) || e != api.OK {
		t.Errorf("%s: Border(%d, %d): %v, %v, %d, not %v", what, a, b, got, lengths, e, want)
	}
}

func refuseLocate(t *testing.T, what string, x *query.Index, p api.Point, want api.Errno) {
	t.Helper()
	if got, e := x.Locate(p); len(got) > 0 || e != want {
		t.Errorf("%s: Locate(%v): %v, %d, not %d alone", what, p, got, e, want)
	}
}

func refuseWindow(t *testing.T, what string, x *query.Index, w api.Window, want api.Errno) {
	t.Helper()
	if got, e := x.Window(w); len(got) > 0 || e != want {
		t.Errorf("%s: Window(%v): %v, %d, not %d alone", what, w, got, e, want)
	}
}

func refusePairs(t *testing.T, what string, x *query.Index, want api.Errno) {
	t.Helper()
	if got, e := x.Pairs(); len(got) > 0 || e != want {
		t.Errorf("%s: Pairs: %v, %d, not %d alone", what, got, e, want)
	}
}

func refuseBorder(t *testing.T, what string, x *query.Index, a, b int, want api.Errno) {
	t.Helper()
	if got, lengths, e := x.Border(a, b); len(got) > 0 || len(lengths) > 0 || e != want {
		t.Errorf("%s: Border(%d, %d): %v, %v, %d, not %d alone", what, a, b, got, lengths, e, want)
	}
}

// lengthsOf reckons the lengths, squared, in numbers of any size.
func lengthsOf(list []api.Edge) []api.Int {
	var lengths []api.Int
	for _, e := range list {
		dx, dy := big.NewInt(int64(e.B.X)-int64(e.A.X)), big.NewInt(int64(e.B.Y)-int64(e.A.Y))
		n := new(big.Int).Add(dx.Mul(dx, dx), dy.Mul(dy, dy))
		lengths = append(lengths, api.Int{Hi: new(big.Int).Rsh(n, 64).Int64(), Lo: new(big.Int).And(n, new(big.Int).SetUint64(1<<64-1)).Uint64()})
	}
	return lengths
}

// The reckonings of a plan look at all parcels, and at all their edges.

func edgesOf(r api.Ring) []api.Edge {
	var list []api.Edge
	for i, a := range r {
		list = append(list, api.Edge{A: a, B: r[(i+1)%len(r)]})
	}
	return list
}

func chosen(p api.Plan, is func(api.Ring) bool) []int {
	var list []int
	for _, parcel := range p.Parcels {
		if is(parcel.Ring) {
			list = append(list, parcel.ID)
		}
	}
	return list
}

// has tells by how many edges a way to the right of the point goes through: it lies within where these are not even.
func has(r api.Ring, p api.Point) bool {
	within := false
	for _, e := range edgesOf(r) {
		if on, _ := geo.On(e.A, e.B, p); on {
			return true
		}
		if e.A.Y > e.B.Y {
			e.A, e.B = e.B, e.A
		}
		if turn, _ := geo.Turn(e.A, e.B, p); e.A.Y <= p.Y && p.Y < e.B.Y && turn > 0 {
			within = !within
		}
	}
	return within
}

// meets tells by corners of one in the other, and by edges that have a point in common.
func meets(r api.Ring, w api.Window) bool {
	frame := of(w.Low.X, w.Low.Y, w.High.X, w.Low.Y, w.High.X, w.High.Y, w.Low.X, w.High.Y)
	for _, e := range edgesOf(r) {
		if w.Low.X <= e.A.X && e.A.X <= w.High.X && w.Low.Y <= e.A.Y && e.A.Y <= w.High.Y {
			return true
		}
		for _, side := range edgesOf(frame) {
			if common, _ := geo.Meet(e.A, e.B, side.A, side.B); common > 0 {
				return true
			}
		}
	}
	return has(r, w.High)
}

func expectedLocate(p api.Plan, at api.Point) []int {
	return chosen(p, func(r api.Ring) bool { return has(r, at) })
}

func expectedWindow(p api.Plan, w api.Window) []int {
	return chosen(p, func(r api.Ring) bool { return meets(r, w) })
}

func expectedBorder(one, other api.Parcel) []api.Edge {
	var list []api.Edge
	for _, e := range edgesOf(one.Ring) {
		for _, f := range edgesOf(other.Ring) {
			if e.A == f.B && e.B == f.A {
				list = append(list, e)
			}
		}
	}
	return list
}

func expectedPairs(p api.Plan) []api.Pair {
	var list []api.Pair
	for i, one := range p.Parcels {
		for _, other := range p.Parcels[i+1:] {
			if len(expectedBorder(one, other)) > 0 {
				list = append(list, api.Pair{A: one.ID, B: other.ID})
			}
		}
	}
	return list
}

// judge asks an index of a plan for all borders, and for some points and windows, and holds the answers against the reckonings.
func judge(t *testing.T, what string, p api.Plan, points []api.Point, windows []api.Window) {
	t.Helper()
	x := made(t, what, p)
	for _, one := range points {
		giveLocate(t, what, x, one, expectedLocate(p, one))
	}
	for _, w := range windows {
		giveWindow(t, what, x, w, expectedWindow(p, w))
	}
	givePairs(t, what, x, expectedPairs(p))
	for _, one := range p.Parcels {
		for _, other := range p.Parcels {
			if one.ID != other.ID {
				giveBorder(t, what, x, one.ID, other.ID, expectedBorder(one, other))
			}
		}
	}
}

// The reckonings of a sheet look at its squares alone, and at no ring but for the order of a border's edges.

// met answers whose squares have a point in common with a window.
func (s sheet) met(w api.Window) []int {
	var list []int
	for p, id := range s.squares {
		x, y := s.low.X+s.step*p.X, s.low.Y+s.step*p.Y
		if x <= w.High.X && w.Low.X <= x+s.step && y <= w.High.Y && w.Low.Y <= y+s.step {
			list = append(list, id)
		}
	}
	slices.Sort(list)
	return slices.Compact(list)
}

// beside answers whose square lies to the right of an edge as long as a square, 0 if none.
func (s sheet) beside(e api.Edge) int {
	x, y := (e.A.X-s.low.X)/s.step, (e.A.Y-s.low.Y)/s.step
	switch {
	case e.B.X > e.A.X:
		return s.squares[at(x, y-1)]
	case e.B.Y > e.A.Y:
		return s.squares[at(x, y)]
	case e.B.X < e.A.X:
		return s.squares[at(x-1, y)]
	}
	return s.squares[at(x-1, y-1)]
}

func (s sheet) border(r api.Ring, other int) []api.Edge {
	return slices.DeleteFunc(edgesOf(r), func(e api.Edge) bool { return s.beside(e) != other })
}

func (s sheet) pairs() []api.Pair {
	var list []api.Pair
	for _, a := range s.ids() {
		for _, b := range s.ids() {
			if a < b && s.neighbours(a, b) {
				list = append(list, api.Pair{A: a, B: b})
			}
		}
	}
	return list
}

func (s sheet) neighbours(a, b int) bool {
	for p, id := range s.squares {
		right, above := s.squares[at(p.X+1, p.Y)], s.squares[at(p.X, p.Y+1)]
		if id == a && (right == b || above == b) || id == b && (right == a || above == a) {
			return true
		}
	}
	return false
}

func (s sheet) String() string {
	return fmt.Sprintf("%.300s from %v on by %d", fmt.Sprint(s.squares), s.low, s.step)
}

// judge asks an index of the sheet's plan for all points of those coordinates, and for each some-th window of them; and for all borders.
func (s sheet) judge(t *testing.T, xs, ys []int, some int) {
	t.Helper()
	p, ok := s.plan()
	if !ok {
		t.Fatalf("%v has no plan", s)
	}
	what := s.String()
	x := made(t, what, p)
	for _, w := range windowsOf(xs, ys, some) {
		giveWindow(t, what, x, w, s.met(w))
	}
	for _, px := range xs {
		for _, py := range ys {
			giveLocate(t, what, x, at(px, py), s.met(box(px, py, px, py)))
		}
	}
	givePairs(t, what, x, s.pairs())
	for _, parcel := range p.Parcels {
		for _, other := range s.ids() {
			if other != parcel.ID {
				giveBorder(t, what, x, parcel.ID, other, s.border(parcel.Ring, other))
			}
		}
	}
}

// windowsOf answers each some-th window of those coordinates, points and stretches too.
func windowsOf(xs, ys []int, some int) []api.Window {
	var list []api.Window
	count := 0
	for i, lowX := range xs {
		for _, highX := range xs[i:] {
			for k, lowY := range ys {
				for _, highY := range ys[k:] {
					if count++; count%some == 0 {
						list = append(list, box(lowX, lowY, highX, highY))
					}
				}
			}
		}
	}
	return list
}

// steps are the coordinates of a sheet's lines on one axis, one beyond on each side, with those around them and amid.
func steps(low, step, count int) []int {
	var list []int
	for i := -1; i <= count+1; i++ {
		n := low + i*step
		list = append(list, n, n+step/2)
		if step > 2 {
			list = append(list, n-1, n+1)
		}
	}
	return good(list...)
}
