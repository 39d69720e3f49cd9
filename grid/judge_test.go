package grid_test

import (
	"math"
	"slices"
	"testing"

	"merestone/api"
	"merestone/grid"
)

const (
	limit = api.MaxCoord
	size  = api.CellSize
)

func at(x, y int) api.Point { return api.Point{X: x, Y: y} }

func cell(x, y int) api.Cell { return api.Cell{X: x, Y: y} }

func box(lowX, lowY, highX, highY int) api.Window {
	return api.Window{Low: at(lowX, lowY), High: at(highX, highY)}
}

// of makes a ring of numbers: X and Y of one corner after the other.
func of(numbers ...int) api.Ring {
	var r api.Ring
	for pair := range slices.Chunk(numbers, 2) {
		r = append(r, at(pair[0], pair[1]))
	}
	return r
}

// cells makes a list of numbers: X and Y of one cell after the other.
func cells(numbers ...int) []api.Cell {
	var list []api.Cell
	for pair := range slices.Chunk(numbers, 2) {
		list = append(list, cell(pair[0], pair[1]))
	}
	return list
}

func begun(r api.Ring, first int) api.Ring {
	return slices.Concat(r[first:], r[:first])
}

// A view lays the plane down elsewhere. Where it is mirrored, rings run the other way round.
type view struct {
	mirrored bool
	to       func(api.Point) api.Point
}

func views() []view {
	var list []view
	for _, sign := range []api.Point{at(1, 1), at(1, -1), at(-1, 1), at(-1, -1)} {
		mirrored := sign.X != sign.Y
		list = append(list,
			view{mirrored, func(p api.Point) api.Point { return at(sign.X*p.X, sign.Y*p.Y) }},
			view{!mirrored, func(p api.Point) api.Point { return at(sign.X*p.Y, sign.Y*p.X) }})
	}
	return list
}

func (v view) ring(r api.Ring) api.Ring {
	var seen api.Ring
	for _, p := range r {
		seen = append(seen, v.to(p))
	}
	if v.mirrored {
		slices.Reverse(seen)
	}
	return seen
}

// edges are the coordinates at, below and above each multiple of CellSize that are Good.
func edges() []int {
	var list []int
	for border := -limit; border <= limit; border += size {
		for _, n := range []int{border - 1, border, border + 1} {
			if -limit <= n && n <= limit {
				list = append(list, n)
			}
		}
	}
	return list
}

// beyond are coordinates that are not Good.
func beyond() []int {
	return []int{-limit - 1, limit + 1, -limit - size, limit + size, math.MinInt32, math.MaxInt32, math.MinInt, math.MaxInt}
}

// The reckonings below don't divide: they go through more cells than the plane has, each from its least coordinate to the last one ahead of the next cell's.

// expectedRow answers the one cell that has n, told by one of its coordinates.
func expectedRow(n int) int {
	row := -6
	for (row+1)*size <= n {
		row++
	}
	return row
}

// expectedSpan answers each cell in which there is room for a point of the window.
func expectedSpan(w api.Window) []api.Cell {
	return expected(func(x, y int) bool {
		return reach(w.Low.X, w.High.X, x) && reach(w.Low.Y, w.High.Y, y)
	})
}

func reach(low, high, row int) bool {
	return low < (row+1)*size && high >= row*size
}

// expectedCells answers each cell that has corners on it or beyond it on both of its sides, in both ways across the plane.
func expectedCells(r api.Ring) []api.Cell {
	some := func(fit func(api.Point) bool) bool { return slices.ContainsFunc(r, fit) }
	return expected(func(x, y int) bool {
		return some(func(p api.Point) bool { return p.X < (x+1)*size }) && some(func(p api.Point) bool { return p.X >= x*size }) &&
			some(func(p api.Point) bool { return p.Y < (y+1)*size }) && some(func(p api.Point) bool { return p.Y >= y*size })
	})
}

func expected(is func(x, y int) bool) []api.Cell {
	var list []api.Cell
	for x := -6; x <= 6; x++ {
		for y := -6; y <= 6; y++ {
			if is(x, y) {
				list = append(list, cell(x, y))
			}
		}
	}
	return list
}

func giveAt(t *testing.T, p api.Point, want api.Cell) {
	t.Helper()
	if got, e := grid.At(p); got != want || e != api.OK {
		t.Errorf("At(%v): %v, %d, not %v", p, got, e, want)
	}
}

func giveSpan(t *testing.T, w api.Window, want []api.Cell) {
	t.Helper()
	if got, e := grid.Span(w); !slices.Equal(got, want) || e != api.OK {
		t.Errorf("Span(%v): %v, %d, not %v", w, got, e, want)
	}
}

func giveCells(t *testing.T, r api.Ring, want []api.Cell) {
	t.Helper()
	if got, e := grid.Cells(r); !slices.Equal(got, want) || e != api.OK {
		t.Errorf("Cells(%v): %v, %d, not %v", r, got, e, want)
	}
}

func refuseAt(t *testing.T, p api.Point) {
	t.Helper()
	if got, e := grid.At(p); got != (api.Cell{}) || e != api.ErrRange {
		t.Errorf("At(%v): %v, %d, not ErrRange alone", p, got, e)
	}
}

func refuseSpan(t *testing.T, w api.Window, want api.Errno) {
	t.Helper()
	if got, e := grid.Span(w); len(got) != 0 || e != want {
		t.Errorf("Span(%v): %v, %d, not %d alone", w, got, e, want)
	}
}

func refuseCells(t *testing.T, name string, r api.Ring, want api.Errno) {
	t.Helper()
	if got, e := grid.Cells(r); len(got) != 0 || e != want {
		t.Errorf("%s: Cells(%v): %v, %d, not %d alone", name, r, got, e, want)
	}
}
