package grid_test

import (
	"slices"
	"testing"

	"merestone/api"
	"merestone/grid"
	"merestone/ring"
	"merestone/window"
)

// The calls as the chapter lists them: this does not compile if one is another.
var (
	_ func(api.Point) (api.Cell, api.Errno)    = grid.At
	_ func(api.Window) ([]api.Cell, api.Errno) = grid.Span
	_ func(api.Ring) ([]api.Cell, api.Errno)   = grid.Cells
)

func TestChaptersExample(t *testing.T) {
	giveAt(t, at(-1, 0), cell(-1, 0))
	giveAt(t, at(api.CellSize, api.CellSize-1), cell(1, 0))
	giveSpan(t, box(-1, -1, 0, 0), cells(-1, -1, -1, 0, 0, -1, 0, 0))
}

// At

// Each number with the cell's that it lies in, written out: at a multiple of CellSize, one below it and one above.
func TestAtOfNumbersWrittenOut(t *testing.T) {
	for _, c := range []struct{ n, want int }{
		{-limit, -4}, {-limit + 1, -4},
		{-3*size - 1, -4}, {-3 * size, -3}, {-3*size + 1, -3},
		{-2*size - 1, -3}, {-2 * size, -2}, {-2*size + 1, -2},
		{-size - 1, -2}, {-size, -1}, {-size + 1, -1}, {-size / 2, -1},
		{-2, -1}, {-1, -1}, {0, 0}, {1, 0}, {2, 0},
		{size / 2, 0}, {size - 1, 0}, {size, 1}, {size + 1, 1},
		{2*size - 1, 1}, {2 * size, 2}, {2*size + 1, 2},
		{3*size - 1, 2}, {3 * size, 3}, {3*size + 1, 3},
		{limit - 1, 3}, {limit, 4},
	} {
		giveAt(t, at(c.n, c.n), cell(c.want, c.want))
		giveAt(t, at(c.n, 7), cell(c.want, 0))
		giveAt(t, at(-7, c.n), cell(-1, c.want))
	}
}

// X tells the cell's X, and Y its Y, whatever the other one is.
func TestAtOfAllPairsOfEdges(t *testing.T) {
	for _, x := range edges() {
		for _, y := range edges() {
			giveAt(t, at(x, y), cell(expectedRow(x), expectedRow(y)))
		}
	}
}

func TestAtBeyondTheLimits(t *testing.T) {
	for _, n := range beyond() {
		for _, good := range edges() {
			refuseAt(t, at(n, good))
			refuseAt(t, at(good, n))
		}
		for _, other := range beyond() {
			refuseAt(t, at(n, other))
		}
	}
}

// Span

func TestSpanOfWindowsWrittenOut(t *testing.T) {
	for _, c := range []struct {
		w    api.Window
		want []api.Cell
	}{
		// Points.
		{box(0, 0, 0, 0), cells(0, 0)},
		{box(-1, -1, -1, -1), cells(-1, -1)},
		{box(size-1, size, size-1, size), cells(0, 1)},
		{box(-size, -size-1, -size, -size-1), cells(-1, -2)},
		{box(limit, limit, limit, limit), cells(4, 4)},
		{box(-limit, -limit, -limit, -limit), cells(-4, -4)},
		{box(limit, -limit, limit, -limit), cells(4, -4)},
		// Stretches.
		{box(5, -1, 5, size), cells(0, -1, 0, 0, 0, 1)},
		{box(-size-1, 7, size, 7), cells(-2, 0, -1, 0, 0, 0, 1, 0)},
		{box(1, 3, size-1, 3), cells(0, 0)},
		{box(size, -limit, size, -3*size), cells(1, -4, 1, -3)},
		// Within a cell, and all of one.
		{box(1, 1, size-2, size-2), cells(0, 0)},
		{box(0, 0, size-1, size-1), cells(0, 0)},
		{box(-size, -size, -1, -1), cells(-1, -1)},
		{box(2*size, -3*size, 3*size-1, -2*size-1), cells(2, -3)},
		// One coordinate more than a cell has, on each side.
		{box(-1, 0, size-1, size-1), cells(-1, 0, 0, 0)},
		{box(0, -1, size-1, size-1), cells(0, -1, 0, 0)},
		{box(0, 0, size, size-1), cells(0, 0, 1, 0)},
		{box(0, 0, size-1, size), cells(0, 0, 0, 1)},
		{box(size-1, size-1, size, size), cells(0, 0, 0, 1, 1, 0, 1, 1)},
		{box(-size-1, -size-1, -size, -size), cells(-2, -2, -2, -1, -1, -2, -1, -1)},
		// Across 0.
		{box(-size, -1, size-1, 0), cells(-1, -1, -1, 0, 0, -1, 0, 0)},
		{box(-size-1, -5, size, 5), cells(-2, -1, -2, 0, -1, -1, -1, 0, 0, -1, 0, 0, 1, -1, 1, 0)},
		{box(-1, -size-1, 0, size), cells(-1, -2, -1, -1, -1, 0, -1, 1, 0, -2, 0, -1, 0, 0, 0, 1)},
		// At the plane's end.
		{box(limit-1, 0, limit, 0), cells(3, 0, 4, 0)},
		{box(0, -limit, 0, -limit+size), cells(0, -4, 0, -3)},
	} {
		giveSpan(t, c.w, c.want)
	}
}

func TestSpanOfAllThePlane(t *testing.T) {
	got, e := grid.Span(box(-limit, -limit, limit, limit))
	if len(got) != 81 || e != api.OK {
		t.Fatalf("%d cells, %d", len(got), e)
	}
	for i, c := range got {
		if c != cell(i/9-4, i%9-4) {
			t.Errorf("cell %d of the plane is %v", i, c)
		}
	}
}

// All windows whose coordinates are at, below or above the cells' borders.
func TestSpanOfAllWindowsOfEdges(t *testing.T) {
	list := edges()
	for i, lowX := range list {
		for _, highX := range list[i:] {
			for j, lowY := range list {
				for _, highY := range list[j:] {
					w := box(lowX, lowY, highX, highY)
					giveSpan(t, w, expectedSpan(w))
				}
			}
		}
	}
}

// Each cell is ahead of the next one, by X and then by Y, so that none is there twice.
func TestSpanTellsCellsInOrder(t *testing.T) {
	for _, w := range windows() {
		got, _ := grid.Span(w)
		for i := 1; i < len(got); i++ {
			a, b := got[i-1], got[i]
			if a.X > b.X || a.X == b.X && a.Y >= b.Y {
				t.Errorf("Span(%v): %v ahead of %v", w, a, b)
			}
		}
	}
}

// windows have sides of many lengths, and begin anywhere.
func windows() []api.Window {
	var list []api.Window
	for x := -limit; x <= limit; x += size/2 + 12345 {
		for y := -limit; y <= limit; y += size - 54321 {
			for length := 1; length <= 2*limit; length *= 7 {
				list = append(list, box(x, y, min(x+length, limit), y), box(x, y, x, min(y+length, limit)),
					box(x, y, min(x+length, limit), min(y+2*length, limit)), box(x, y, min(x+3*length, limit), min(y+length, limit)))
			}
		}
	}
	return list
}

// What At answers of a window's points is in Span, and each cell of Span is what At answers of one of them.
func TestSpanIsAtOfAllPoints(t *testing.T) {
	for _, w := range windows() {
		got, e := grid.Span(w)
		if e != api.OK {
			t.Fatalf("Span(%v): %d", w, e)
		}
		for _, p := range points(w) {
			if c, _ := grid.At(p); !slices.Contains(got, c) {
				t.Errorf("Span(%v) has not the cell %v of %v", w, c, p)
			}
		}
		for _, c := range got {
			nearest := at(max(w.Low.X, c.X*size), max(w.Low.Y, c.Y*size))
			own, _ := grid.At(nearest)
			if has, _ := window.Has(w, nearest); !has || own != c {
				t.Errorf("Span(%v) has the cell %v, which has no point of it", w, c)
			}
		}
	}
}

// points are some of a window's: its corners, its middle, and some between.
func points(w api.Window) []api.Point {
	var list []api.Point
	for i := range 5 {
		for j := range 5 {
			list = append(list, at(w.Low.X+(w.High.X-w.Low.X)/4*i, w.Low.Y+(w.High.Y-w.Low.Y)/4*j))
		}
	}
	return append(list, w.High, at(w.High.X, w.Low.Y), at(w.Low.X, w.High.Y))
}

// Cells

func TestCellsOfRingsWrittenOut(t *testing.T) {
	for _, c := range []struct {
		name string
		r    api.Ring
		want []api.Cell
	}{
		{"within one", of(1, 1, 5, 1, 3, 9), cells(0, 0)},
		{"within one below 0", of(-9, -9, -1, -9, -5, -1), cells(-1, -1)},
		{"all of one", of(0, 0, size-1, 0, size-1, size-1, 0, size-1), cells(0, 0)},
		{"all of one below 0", of(-size, -size, -1, -size, -1, -1, -size, -1), cells(-1, -1)},
		{"one more to the right", of(0, 0, size, 0, size, size-1, 0, size-1), cells(0, 0, 1, 0)},
		{"one more above", of(0, 0, size-1, 0, size-1, size, 0, size), cells(0, 0, 0, 1)},
		{"one more to the left", of(-1, 0, size-1, 0, size-1, size-1, -1, size-1), cells(-1, 0, 0, 0)},
		{"one more below", of(0, -1, size-1, -1, size-1, size-1, 0, size-1), cells(0, -1, 0, 0)},
		{"its border on the cells'", of(size, size, 2*size, size, 2*size, 2*size, size, 2*size), cells(1, 1, 1, 2, 2, 1, 2, 2)},
		{"across 0", of(-1, -1, 1, -1, 1, 1, -1, 1), cells(-1, -1, -1, 0, 0, -1, 0, 0)},
		{"across one border", of(5, size-3, 9, size-3, 7, size+3), cells(0, 0, 0, 1)},
		{"across some", of(-size-1, 5, size, 5, 0, 9), cells(-2, 0, -1, 0, 0, 0, 1, 0)},
		{"upright", of(3, -limit, 4, -limit, 4, -2*size, 3, -2*size), cells(0, -4, 0, -3, 0, -2)},
		{"one edge on a cell's border", of(0, 0, size, size, 0, size), cells(0, 0, 0, 1, 1, 0, 1, 1)},
		{"a corner alone in a cell", of(1, 1, size, 2, 1, 3), cells(0, 0, 1, 0)},
		{"a corner at the plane's end", of(limit-9, limit-9, limit, limit, limit-9, limit), cells(3, 3, 3, 4, 4, 3, 4, 4)},
	} {
		for first := range c.r {
			giveCells(t, begun(c.r, first), c.want)
		}
		if reckoned := expectedCells(c.r); !slices.Equal(reckoned, c.want) {
			t.Errorf("%s: %v is reckoned, %v written out", c.name, reckoned, c.want)
		}
	}
}

// The window tells the cells, not the land: it need not reach into each of them.
func TestCellsWithoutLand(t *testing.T) {
	sliver := of(-1, -1, size, size-1, size, size)
	giveCells(t, sliver, cells(-1, -1, -1, 0, -1, 1, 0, -1, 0, 0, 0, 1, 1, -1, 1, 0, 1, 1))
	low, high := -size-1, size+1
	bay := of(low, low, high, low, high, high, high-1, high, high-1, low+1, low+1, low+1, low+1, high, low, high)
	giveCells(t, bay, cells(-2, -2, -2, -1, -2, 0, -2, 1, -1, -2, -1, -1, -1, 0, -1, 1, 0, -2, 0, -1, 0, 0, 0, 1, 1, -2, 1, -1, 1, 0, 1, 1))
	for _, r := range []api.Ring{sliver, bay} {
		without := 0
		got, _ := grid.Cells(r)
		for _, c := range got {
			if meets, _ := window.Meets(box(c.X*size, c.Y*size, c.X*size+size-1, c.Y*size+size-1), r); !meets {
				without++
			}
		}
		if without == 0 {
			t.Errorf("Cells(%v): the land reaches into each", r)
		}
	}
}

func TestCellsOfAllThePlane(t *testing.T) {
	r := of(-limit, -limit, limit, -limit, limit, limit, -limit, limit)
	all, _ := grid.Span(box(-limit, -limit, limit, limit))
	for first := range r {
		giveCells(t, begun(r, first), all)
	}
	giveCells(t, of(0, -limit, limit, 0, 0, limit, -limit, 0), all)
}

// judgeCells looks at any corners: a sound ring's cells, or Check's error.
func judgeCells(t *testing.T, r api.Ring) {
	t.Helper()
	if e := ring.Check(r); e != api.OK {
		refuseCells(t, "not sound", r, e)
		return
	}
	giveCells(t, r, expectedCells(r))
}

// All threes of points at the cells' borders and at the limits, which are most sound just one way round.
func TestCellsOfAllTriangles(t *testing.T) {
	list := lattice(-limit, -size-1, -size, -1, 0, size-1, size)
	for _, a := range list {
		for _, b := range list {
			for _, c := range list {
				judgeCells(t, api.Ring{a, b, c})
			}
		}
	}
}

func TestCellsOfAllFours(t *testing.T) {
	list := lattice(-size, -1, size-1, limit)
	for _, a := range list {
		for _, b := range list {
			for _, c := range list {
				for _, d := range list {
					judgeCells(t, api.Ring{a, b, c, d})
				}
			}
		}
	}
}

func lattice(numbers ...int) []api.Point {
	var list []api.Point
	for _, x := range numbers {
		for _, y := range numbers {
			list = append(list, at(x, y))
		}
	}
	return list
}

// One corner is far from all others, on each side of them: it may stand anywhere in a ring, be it as long as may be.
func TestCellsWithOneCornerFarAway(t *testing.T) {
	for _, corners := range []int{3, 4, 5, 64, api.MaxPoints} {
		r := far(corners)
		for _, v := range views() {
			seen := v.ring(r)
			for first := range seen {
				judgeSound(t, begun(seen, first), 6)
			}
		}
	}
}

// far has corners in line, and one three cells above them.
func far(corners int) api.Ring {
	var r api.Ring
	for x := range corners - 1 {
		r = append(r, at(100+x, 5))
	}
	return append(r, at(size+100, 2*size+5))
}

// The four that tell the window are all others: each is the only one as far as it is, and stands anywhere.
func TestCellsWithEachSideToldByAnotherCorner(t *testing.T) {
	wheel := of(-3, -2*size-7, 9, -9, size+7, 2, 8, 9, 1, 3*size+7, -9, 9, -size-7, 1, -9, -8)
	for _, v := range views() {
		seen := v.ring(wheel)
		for first := range seen {
			judgeSound(t, begun(seen, first), 28)
		}
	}
	kite := of(-3, -2*size-7, size+7, 2, 1, 3*size+7, -size-7, 1)
	for _, v := range views() {
		seen := v.ring(kite)
		for first := range seen {
			judgeSound(t, begun(seen, first), 28)
		}
	}
}

func judgeSound(t *testing.T, r api.Ring, number int) {
	t.Helper()
	if e := ring.Check(r); e != api.OK {
		t.Fatalf("%v is not sound: %d", r, e)
	}
	want := expectedCells(r)
	if len(want) != number {
		t.Fatalf("%v: %d cells are reckoned", r, len(want))
	}
	giveCells(t, r, want)
}
