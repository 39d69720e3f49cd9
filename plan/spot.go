package plan

import (
	"merestone/api"
	"merestone/wide"
)

const maxParts = 1024

// A spot is the point (x / parts, y / parts). Layer 3 doesn't tell the side of it: beside it, drawn out parts times, rings have corners that are not Good.
type spot struct{ x, y, parts int }

// spotAt refuses parts ahead of x and y, as their limits hang on it.
func spotAt(x, y, parts int) (spot, api.Errno) {
	if parts < 1 || parts > maxParts {
		return spot{}, api.ErrArg
	}
	limit := api.MaxCoord * parts
	if min(x, y) < -limit || max(x, y) > limit {
		return spot{}, api.ErrRange
	}
	return spot{x, y, parts}, api.OK
}

// side answers 1, 0 or -1, as the spot lies within a sound ring, on an edge of it, or outside.
func (s spot) side(r api.Ring) int {
	rounds := 0
	for _, e := range edgesOf(r) {
		if s.on(e) {
			return 0
		}
		rounds += s.passed(e)
	}
	// A sound ring goes to the left around what lies within, once.
	if rounds == 1 {
		return 1
	}
	return -1
}

func (s spot) on(e api.Edge) bool {
	return s.turn(e) == 0 &&
		between(s.x, e.A.X*s.parts, e.B.X*s.parts) &&
		between(s.y, e.A.Y*s.parts, e.B.Y*s.parts)
}

// passed answers 1 for an edge that goes up to the right of the spot, through its level, -1 for one that goes down there. A corner on that level counts as above it, so that it is passed once where the ring goes on through the level, and not at all or there and back where it turns round.
func (s spot) passed(e api.Edge) int {
	from, to, turn := e.A.Y*s.parts, e.B.Y*s.parts, s.turn(e)
	switch {
	case from < s.y && s.y <= to && turn > 0:
		return 1
	case to < s.y && s.y <= from && turn < 0:
		return -1
	}
	return 0
}

// turn answers 1, -1 or 0, as the spot is to the left of e, to its right, or in line with it. The two products have up to 72 bits.
func (s spot) turn(e api.Edge) int {
	left := wide.Mul(e.B.X-e.A.X, s.y-e.A.Y*s.parts)
	right := wide.Mul(e.B.Y-e.A.Y, s.x-e.A.X*s.parts)
	return wide.Compare(left, right)
}

func between(n, one, other int) bool {
	return min(one, other) <= n && n <= max(one, other)
}
