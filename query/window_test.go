package query_test

import (
	"fmt"
	"slices"
	"testing"

	"merestone/api"
)

func pane(name string, p api.Plan, lowX, lowY, highX, highY int, want ...int) place {
	return place{name, p, box(lowX, lowY, highX, highY), want}
}

func panes() []place {
	other := numbered(crossroads(), 100, 9, 10, api.MaxID)
	return []place{
		// Points.
		pane("a point within", halves(), 1, 1, 1, 1, 2),
		pane("a point on an edge of two", halves(), 2, 3, 2, 3, 1, 2),
		pane("a point at a corner of six", star(), 2, 2, 2, 2, 1, 2, 3, 4, 5, 6),
		pane("a point on the territory's border", halves(), 4, 3, 4, 3, 1),
		pane("a point outside", halves(), 5, 3, 5, 3),
		// Stretches.
		pane("a stretch within", halves(), 3, 1, 3, 3, 1),
		pane("a stretch across an edge", halves(), 1, 2, 3, 2, 1, 2),
		pane("a stretch along an edge", halves(), 2, 1, 2, 3, 1, 2),
		pane("a stretch up to an edge", bands(), 1, 2, 2, 2, 3, 7),
		pane("a stretch through three", bands(), 1, 1, 5, 1, 3, 7, 8),
		pane("a stretch through the corner of four", crossroads(), 2, 2, 2, 3, 2, 4, 6, 8),
		pane("a stretch along the territory's border", bands(), 0, 4, 6, 4, 3, 7, 8),
		pane("a stretch outside, beside the border", bands(), 0, 5, 6, 5),
		pane("a stretch through all, from outside to outside", halves(), -1, 3, 7, 3, 1, 2),
		pane("a stretch through a narrow place, with no end on it", zigzag(), 2, 1, 3, 1, 4, 9),
		pane("a stretch that cuts a line between the points", slant(), 3, 4, 4, 4, 1, 2),
		// Within a parcel.
		pane("within the only one", square(), 1, 1, 3, 3, 5),
		pane("within one", creek(), 1, 1, 2, 1, 1),
		pane("within one of four", numbered(crossroads(), 1, 2, 3, 4), 3, 3, 3, 3, 4),
		pane("within the one in the bay", island(), 4, 4, 4, 7, 4),
		// What holds a whole parcel.
		pane("around the only one", square(), -1, -1, 5, 5, 5),
		pane("just the only one", square(), 0, 0, 4, 4, 5),
		pane("around the middle one", bands(), 1, -1, 5, 5, 3, 7, 8),
		pane("just the middle one", bands(), 2, 0, 4, 4, 3, 7, 8),
		pane("around one that two others lie round", gate(), 2, 1, 6, 4, 1, 2, 3),
		pane("around all", crossroads(), -1, -1, 6, 6, 2, 4, 6, 8),
		pane("around the last one", crossroads(), 2, 2, 6, 6, 2, 4, 6, 8),
		// What touches one at a corner, or along an edge alone.
		pane("the only one's corner", square(), 4, 4, 6, 6, 5),
		pane("the only one's first corner", square(), -2, -2, 0, 0, 5),
		pane("the only one's edge", square(), 4, 1, 6, 3, 5),
		pane("the only one's lower edge, and more", square(), -1, -2, 5, 0, 5),
		pane("a corner of a neighbour", crossroads(), 2, 2, 3, 3, 2, 4, 6, 8),
		pane("an edge of a neighbour", bands(), 4, 1, 5, 3, 7, 8),
		pane("an edge of a neighbour on each side", bands(), 2, 1, 4, 3, 3, 7, 8),
		pane("the tip of one that slants", vee(), 4, 1, 5, 2, 1, 2),
		pane("the tip of one, from the side", gate(), 1, 1, 3, 2, 1, 3),
		pane("just not the tip", gate(), 1, 1, 2, 2, 1),
		pane("an edge that slants at one corner of the window", slant(), 4, 2, 6, 4, 1, 2),
		pane("just not that edge", slant(), 5, 2, 6, 4, 1),
		// Outside.
		pane("to the right of all", halves(), 5, 0, 7, 4),
		pane("to the left of all", halves(), -3, 0, -1, 4),
		pane("below all", halves(), 0, -3, 4, -1),
		pane("above all", halves(), 0, 5, 4, 6),
		pane("beyond a corner", halves(), 5, 5, 6, 6),
		pane("in the notch", vee(), 4, 6, 4, 8),
		pane("in the notch, up to its border", vee(), 3, 6, 5, 7, 2),
		pane("across the notch", vee(), 2, 7, 6, 7, 1, 2),
		// By rising ID.
		pane("all of four, other IDs", other, 1, 1, 3, 3, 9, 10, 100, api.MaxID),
		pane("two of them, the higher ID to the left", other, 1, 0, 3, 1, 9, 100),
		pane("two of them, the higher ID below", other, 0, 1, 1, 3, 10, 100),
	}
}

func TestWindow(t *testing.T) {
	for _, c := range slices.Concat(panes(), spots()) {
		for _, v := range views() {
			w := v.window(c.at)
			if v.slanted || slices.Max([]int{w.High.X, w.High.Y, -w.Low.X, -w.Low.Y}) > limit {
				continue
			}
			what := c.name + ", " + v.name
			p := v.plan(c.plan)
			giveWindow(t, what, made(t, what, p), w, c.want)
			if reckoned := expectedWindow(p, w); !slices.Equal(reckoned, c.want) {
				t.Errorf("%s: %v is reckoned, %v written out", what, reckoned, c.want)
			}
		}
	}
}

// Chapter 4's errors

func TestWindowsBeyondTheLimits(t *testing.T) {
	x := made(t, "halves", halves())
	for _, n := range beyond() {
		if n < 0 {
			refuseWindow(t, "halves", x, box(n, 0, 4, 4), api.ErrRange)
			refuseWindow(t, "halves", x, box(0, n, 4, 4), api.ErrRange)
		} else {
			refuseWindow(t, "halves", x, box(0, 0, n, 4), api.ErrRange)
			refuseWindow(t, "halves", x, box(0, 0, 4, n), api.ErrRange)
		}
		refuseWindow(t, "halves", x, box(n, 0, n, 0), api.ErrRange)
		refuseWindow(t, "halves", x, box(0, n, 0, n), api.ErrRange)
		refuseWindow(t, "halves", x, box(n, n, n, n), api.ErrRange)
	}
	giveWindow(t, "halves", x, box(-limit, -limit, limit, limit), ids(1, 2))
}

func TestTurnedWindows(t *testing.T) {
	x := made(t, "halves", halves())
	for _, w := range []api.Window{
		box(3, 1, 2, 1), box(1, 3, 1, 2), box(3, 3, 1, 1), box(1, 3, 3, 1), box(3, 1, 1, 3),
		box(4, 0, 0, 4), box(0, 4, 4, 0), box(limit, limit, -limit, -limit), box(0, limit, 4, -limit), box(0, 0, -1, 4), box(0, 0, 4, -1),
	} {
		refuseWindow(t, "halves", x, w, api.ErrArg)
	}
}

// ErrRange is named first: it is told of windows that are turned too.
func TestWindowsBeyondTheLimitsAndTurned(t *testing.T) {
	x := made(t, "halves", halves())
	for _, w := range []api.Window{
		box(limit+1, 0, 4, 4), box(0, limit+1, 4, 4), box(0, 0, -limit-1, 4), box(0, 0, 4, -limit-1),
		box(limit+1, 3, 4, 1), box(3, limit+1, 1, 4), box(3, 0, 1, limit+1), box(0, 3, limit+1, 1), box(-limit-1, 3, 4, 1), box(3, -limit-1, 1, 4),
	} {
		refuseWindow(t, "halves", x, w, api.ErrRange)
	}
}

// Cells

// Sheets whose lines are the cells' borders, or beside them: all points and windows of the lines' coordinates, and of those around them.
func TestAcrossCellsBorders(t *testing.T) {
	rows := [][]string{{"aab", "acb", "abb"}, {"ab ", "cdd", " de"}, {"aaa"}, {"a", "b"}, {"ba"}, {"bbbb", "baab", "b  b"}, {"abcd", "hgfe"}}
	for _, drawing := range rows {
		for _, step := range []int{size, size - 1, size + 1, size / 2, size/3 + 1, 7, 1} {
			for _, low := range []api.Point{at(0, 0), at(-size, -2*size), at(-step-1, 1-step), at(-limit, -limit), at(size-step, -size+1-step)} {
				if across, up := len(drawing[0]), len(drawing); max(low.X+across*step, low.Y+up*step, -low.X, -low.Y) <= limit {
					drawn(low, step, drawing...).judge(t, steps(low.X, step, across), steps(low.Y, step, up), 53)
				}
			}
		}
	}
}

// A parcel may take up cells in which it has no corner and no edge, and cells may have no land.
func TestCellsWithoutCorners(t *testing.T) {
	coordinates := steps(-limit, size, 8)
	for count, step := range []int{1: 2 * limit, 2: limit, 3: 2 * limit / 3, 4: limit / 2} {
		if count > 0 {
			block(at(-limit, -limit), step, count, count).judge(t, coordinates, coordinates, 97)
		}
	}
}

// Each square is a cell, and a parcel: in each of all windows of the cells' borders it is there just where the window is.
func TestAllTheCells(t *testing.T) {
	s := block(at(-limit, -limit), size, 8, 8)
	coordinates := steps(-limit, size, 8)
	s.judge(t, coordinates, coordinates, 401)
	one := block(at(-limit, -limit), 2*limit, 1, 1)
	one.judge(t, coordinates, coordinates, 401)
}

// Land that runs between two cells' last and first coordinates, with none of the grid's points, for as long as a cell.
func TestLandBetweenTheGridsPoints(t *testing.T) {
	upright := of(size-1, -1, size, size, size, size+1)
	// These views turn and mirror alone: the land stays between two coordinates.
	for _, v := range views()[:7] {
		r := v.ring(upright)
		x := made(t, v.name, lay(r, api.Parcel{ID: 3, Ring: r}))
		for _, y := range []int{0, 5, size - 1} {
			giveWindow(t, v.name, x, v.window(box(size-1, y, size, y)), ids(3))
			giveWindow(t, v.name, x, v.window(box(size-1, 0, size, y)), ids(3))
			giveWindow(t, v.name, x, v.window(box(0, y, 2*size, y)), ids(3))
			giveWindow(t, v.name, x, v.window(box(0, y, size-1, y)), nil)
			giveWindow(t, v.name, x, v.window(box(size, y, 2*size, y)), nil)
			giveLocate(t, v.name, x, v.to(at(size-1, y)), nil)
			giveLocate(t, v.name, x, v.to(at(size, y)), nil)
		}
	}
}

// All drawings

// All drawings of two times two squares of up to four parcels, and of three times two of up to three, with empty squares; where a square is a cell, some of these.
func TestAllSmallDrawings(t *testing.T) {
	for step, part := range map[int]int{2: 1, size: 5} {
		t.Run(fmt.Sprint("step ", step), func(t *testing.T) {
			t.Parallel()
			count := 0
			judgeSome := func(some, across, up int, letters string, windows int) {
				eachDrawing(some, across, up, letters, func(rows []string) { count += drawnAndJudged(t, rows, step, windows) })
			}
			judgeSome(1, 2, 2, " abcd", 11*part)
			judgeSome(part, 3, 2, " abc", 307)
			judgeSome(1, 1, 3, " abc", 3*part)
			if count < 500 {
				t.Errorf("%d drawings have a plan", count)
			}
		})
	}
}

// eachDrawing looks at each some-th drawing of that width and height that is made of those letters.
func eachDrawing(some, across, up int, letters string, look func([]string)) {
	count := 1
	for range across * up {
		count *= len(letters)
	}
	for n := 0; n < count; n += some {
		left, rows := n, []string{}
		for range up {
			row := ""
			for range across {
				row += letters[left%len(letters):][:1]
				left /= len(letters)
			}
			rows = append(rows, row)
		}
		look(rows)
	}
}

// drawnAndJudged answers 1, if the drawing has a plan.
func drawnAndJudged(t *testing.T, rows []string, step, some int) int {
	t.Helper()
	low := at(-step, 1-step)
	s := drawn(low, step, rows...)
	if _, ok := s.plan(); !ok {
		return 0
	}
	s.judge(t, steps(low.X, step, len(rows[0])), steps(low.Y, step, len(rows)), some)
	return 1
}

// Drawings of three times three squares of up to four parcels, some of them.
func TestSomeDrawings(t *testing.T) {
	t.Parallel()
	count := 0
	eachDrawing(157, 3, 3, " abcd", func(rows []string) { count += drawnAndJudged(t, rows, size/2+1, 997) })
	if count < 300 {
		t.Errorf("%d drawings have a plan", count)
	}
}
