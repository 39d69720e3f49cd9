package grid_test

import (
	"slices"
	"testing"

	"merestone/api"
	"merestone/grid"
)

// What is handed in stays as it is, its spare room too, whether the ring is sound or not.
func TestRingsStayAsTheyAre(t *testing.T) {
	for _, r := range []api.Ring{
		of(3, 9, 1, 1, 5, 1), of(size, 0, 0, size, -size, 0, 0, -size),
		of(0, 4, 4, 4, 4, 0, 0, 0), of(limit+1, 0, 3, 9, 1, 1), of(1, 1), far(api.MaxPoints), far(api.MaxPoints + 1),
	} {
		for _, spare := range []api.Ring{nil, of(-77, 77), of(limit, limit, -limit, -limit, 0, 0)} {
			room := slices.Concat(r, spare)
			grid.Cells(room[:len(r)])
			if !slices.Equal(room, slices.Concat(r, spare)) {
				t.Errorf("Cells(%v) with %d to spare made %v of it", r, len(spare), room)
			}
		}
	}
}

// Two answers of one question are two lists: what is done with one, its spare room too, is not seen in the other.
func TestAnswersAreNewMemory(t *testing.T) {
	w := box(-size, -size, size, size)
	r := of(-size, -size, size, -size, size, size, -size, size)
	for name, ask := range map[string]func() []api.Cell{
		"Span":  func() []api.Cell { list, _ := grid.Span(w); return list },
		"Cells": func() []api.Cell { list, _ := grid.Cells(r); return list },
	} {
		one, other := ask(), ask()
		room := one[:cap(one)]
		for i := range room {
			room[i] = cell(99, -99)
		}
		// The other one is looked at before it is asked again, which would fill memory that is kept anew.
		if !slices.Equal(other, expectedSpan(w)) {
			t.Errorf("%s answers memory that another answer has: %v", name, other)
		}
		if again := ask(); !slices.Equal(again, expectedSpan(w)) {
			t.Errorf("%s answers memory that it keeps: %v", name, again)
		}
	}
}

// The same calls have the same answers, whatever was asked in between.
func TestNothingIsKept(t *testing.T) {
	for range 3 {
		giveAt(t, at(-1, size), cell(-1, 1))
		refuseAt(t, at(limit+1, 0))
		giveSpan(t, box(-1, 0, 0, 0), cells(-1, 0, 0, 0))
		refuseSpan(t, box(1, 0, 0, 0), api.ErrArg)
		giveSpan(t, box(5, 5, 5, 5), cells(0, 0))
		refuseSpan(t, box(0, 0, limit+1, 0), api.ErrRange)
		giveCells(t, of(-9, -9, -1, -9, -5, -1), cells(-1, -1))
		refuseCells(t, "two corners", of(0, 0, 1, 1), api.ErrRing)
		giveCells(t, of(1, 1, size, 2, 1, 3), cells(0, 0, 1, 0))
	}
}
