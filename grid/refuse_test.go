package grid_test

import (
	"testing"

	"merestone/api"
	"merestone/grid"
)

// Span: chapter 4's errors

// Each coordinate alone beyond each limit, and nothing else at fault.
func TestSpanBeyondTheLimits(t *testing.T) {
	for _, n := range beyond() {
		if n < 0 {
			refuseSpan(t, box(n, 0, 0, 0), api.ErrRange)
			refuseSpan(t, box(0, n, 0, 0), api.ErrRange)
		} else {
			refuseSpan(t, box(0, 0, n, 0), api.ErrRange)
			refuseSpan(t, box(0, 0, 0, n), api.ErrRange)
		}
		refuseSpan(t, box(n, n, n, n), api.ErrRange)
		refuseSpan(t, box(n, 0, n, 0), api.ErrRange)
		refuseSpan(t, box(0, n, 0, n), api.ErrRange)
	}
}

func TestSpanOfTurnedWindows(t *testing.T) {
	for _, w := range []api.Window{
		box(1, 0, 0, 0), box(0, 1, 0, 0), box(1, 1, 0, 0), box(0, 1, 1, 0), box(1, 0, 0, 1),
		box(-1, 0, -2, 0), box(0, -1, 0, -2), box(0, 0, -1, 0), box(0, 0, 0, -1),
		box(size, 0, size-1, 0), box(0, size, 0, size-1),
		box(limit, limit, -limit, -limit), box(limit, -limit, -limit, limit), box(-limit, limit, limit, -limit),
	} {
		refuseSpan(t, w, api.ErrArg)
	}
}

// ErrRange is named first: it is told of windows that are turned too.
func TestSpanBeyondTheLimitsAndTurned(t *testing.T) {
	for _, w := range []api.Window{
		box(limit+1, 0, 0, 0), box(0, limit+1, 0, 0), box(0, 0, -limit-1, 0), box(0, 0, 0, -limit-1),
		box(limit+1, 1, 0, 0), box(1, limit+1, 0, 0), box(1, 0, 0, limit+1), box(0, 1, limit+1, 0),
		box(-limit-1, 1, 0, 0), box(1, -limit-1, 0, 0), box(1, 0, 0, -limit-1), box(0, 1, -limit-1, 0),
		box(limit+1, limit+1, -limit-1, -limit-1),
	} {
		refuseSpan(t, w, api.ErrRange)
	}
}

func TestSpanOfAllWindowsBeyondAndWithin(t *testing.T) {
	numbers := append([]int{-limit, -1, 0, size, limit}, beyond()...)
	for _, low := range lattice(numbers...) {
		for _, high := range lattice(numbers...) {
			w := api.Window{Low: low, High: high}
			switch {
			case !within(low) || !within(high):
				refuseSpan(t, w, api.ErrRange)
			case low.X > high.X || low.Y > high.Y:
				refuseSpan(t, w, api.ErrArg)
			default:
				giveSpan(t, w, expectedSpan(w))
			}
		}
	}
}

func within(p api.Point) bool {
	return -limit <= p.X && p.X <= limit && -limit <= p.Y && p.Y <= limit
}

// Cells: chapter 3's errors

func TestCellsOfRingsThatAreNotSound(t *testing.T) {
	for _, c := range []struct {
		name string
		r    api.Ring
	}{
		{"nil", nil},
		{"no corner", api.Ring{}},
		{"one corner", of(1, 1)},
		{"two corners", of(1, 1, 5, 5)},
		{"three in line", of(0, 0, 2, 0, 4, 0)},
		{"to the right", of(0, 4, 4, 4, 4, 0, 0, 0)},
		{"a loop", of(0, 0, 4, 4, 4, 0, 0, 4)},
		{"a loop that runs more to the left", of(0, 0, 9, 0, 9, 9, 8, -1)},
		{"a corner twice", of(0, 0, 4, 0, 4, 0, 4, 4)},
		{"a corner twice, far apart", of(0, 0, 4, 0, 2, 2, 4, 4, 0, 4, 2, 2)},
		{"a corner on an edge", of(0, 0, 4, 0, 4, 4, 2, 0, 0, 4)},
		{"there and back", of(0, 0, 4, 0, 8, 0, 4, 0, 4, 4, 0, 4)},
		{"all the plane, to the right", of(-limit, limit, limit, limit, limit, -limit, -limit, -limit)},
	} {
		refuseCells(t, c.name, c.r, api.ErrRing)
	}
}

// Each corner's each coordinate alone is beyond a limit.
func TestCellsOfRingsBeyondTheLimits(t *testing.T) {
	sound := of(0, 0, 4, 0, 4, 4, 0, 4)
	for i := range sound {
		for _, n := range beyond() {
			wide, high := begun(sound, 0), begun(sound, 0)
			wide[i].X, high[i].Y = n, n
			refuseCells(t, "X", wide, api.ErrRange)
			refuseCells(t, "Y", high, api.ErrRange)
		}
	}
	refuseCells(t, "one to the left of all the plane", of(-limit-1, -limit, limit, -limit, limit, limit, -limit, limit), api.ErrRange)
	refuseCells(t, "one below all the plane", of(-limit, -limit-1, limit, -limit, limit, limit, -limit, limit), api.ErrRange)
	refuseCells(t, "one to the right of all the plane", of(-limit, -limit, limit, -limit, limit+1, limit, -limit, limit), api.ErrRange)
	refuseCells(t, "one above all the plane", of(-limit, -limit, limit, -limit, limit, limit+1, -limit, limit), api.ErrRange)
}

func TestCellsOfRingsThatAreTooLong(t *testing.T) {
	for _, corners := range []int{api.MaxPoints + 1, api.MaxPoints + 2, 2 * api.MaxPoints, 5000} {
		refuseCells(t, "too long", far(corners), api.ErrLarge)
	}
	if _, e := grid.Cells(far(api.MaxPoints)); e != api.OK {
		t.Errorf("as long as may be: %d", e)
	}
}

// Area's errors are named ahead of ErrRing, and ErrLarge is the first of them.
func TestWhichErrorOfCells(t *testing.T) {
	long := far(api.MaxPoints + 1)
	turned := begun(long, 0)
	for i := range turned {
		turned[i] = long[len(long)-1-i]
	}
	refuseCells(t, "too long, and not sound", turned, api.ErrLarge)
	for _, i := range []int{0, 1, api.MaxPoints - 1, api.MaxPoints} {
		outside := begun(long, 0)
		outside[i].X = limit + 1
		refuseCells(t, "too long, and beyond", outside, api.ErrLarge)
		outside = begun(turned, 0)
		outside[i].Y = -limit - 1
		refuseCells(t, "too long, beyond, and not sound", outside, api.ErrLarge)
	}
	refuseCells(t, "beyond, and one corner", of(limit+1, 0), api.ErrRange)
	refuseCells(t, "beyond, and two corners", of(0, 0, 0, -limit-1), api.ErrRange)
	refuseCells(t, "beyond, and to the right", of(0, 4, 4, 4, limit+1, 0, 0, 0), api.ErrRange)
	refuseCells(t, "beyond, and in line", of(0, 0, 2, 0, limit+1, 0), api.ErrRange)
	refuseCells(t, "beyond, and a corner twice", of(0, 0, 0, 0, 4, limit+1), api.ErrRange)
}
