package sector_test

import (
	"math"
	"testing"

	"merestone/api"
)

// states are disks of three sectors in all kinds of states.
func states(t *testing.T) map[string]*twin {
	t.Helper()
	all := map[string]*twin{}
	for name, deeds := range map[string][]deed{
		"new":                    {},
		"written":                {write(0, 1), write(2, 2)},
		"one sector often":       {write(1, 1), write(1, 2), write(1, 3)},
		"sure":                   {write(0, 1), write(1, 2), barrier()},
		"sure and unsure":        {write(0, 1), write(1, 2), barrier(), write(1, 3), write(2, 4)},
		"noughts over a sector":  {write(0, 1), barrier(), write(0, 0)},
		"crashed":                {write(0, 1), write(1, 2), write(0, 3), crash(3)},
		"limited":                {write(0, 1), barrier(), write(1, 2), limit(2)},
		"limited, some left":     {limit(3), write(0, 1)},
		"without power":          {write(0, 1), barrier(), write(1, 2), limit(1), write(2, 3)},
		"without power at first": {limit(1), barrier()},
		"without power, limited": {write(0, 1), limit(1), barrier(), limit(2)},
	} {
		w := twins(t, 3)
		w.do(t, deeds...)
		all[name] = w
	}
	return all
}

// ways are what may come then.
func ways() [][]deed {
	return [][]deed{
		{},
		{crash(0)},
		{crash(1)},
		{crash(2)},
		{crash(math.MaxUint64)},
		{write(0, 50), write(1, 51), write(2, 52)},
		{barrier(), write(0, 50), crash(0)},
		{write(0, 50), barrier(), write(0, 51), crash(0)},
		{write(2, 50), write(0, 51), crash(5)},
		{limit(1), write(0, 50), crash(3)},
		{limit(2), write(0, 50), barrier(), write(1, 51), crash(0)},
		{limit(0), write(0, 50), barrier(), write(1, 51)},
		{limit(3), write(0, 50)},
		{crash(0), write(0, 50), write(1, 51), barrier(), crash(0), write(2, 52)},
	}
}

// A copy is as the disk is, and whatever is done to one of the two is not done to the other.
func TestCopyGoesOnByItself(t *testing.T) {
	for name := range states(t) {
		for _, one := range ways() {
			for _, other := range ways() {
				first := states(t)[name]
				second := first.copied()
				second.hold(t)
				first.do(t, one...)
				second.hold(t)
				second.do(t, other...)
				first.hold(t)
				first.do(t, write(0, 60), barrier(), write(1, 61), crash(0))
				second.hold(t)
				second.do(t, write(2, 70), crash(1))
				first.hold(t)
			}
		}
	}
}

// Copies of copies, which all go on.
func TestCopiesOfCopies(t *testing.T) {
	for name := range states(t) {
		list := []*twin{states(t)[name]}
		for i, deeds := range ways() {
			next := list[i].copied()
			next.do(t, deeds...)
			list = append(list, next)
			for _, w := range list {
				w.hold(t)
			}
		}
		for i, w := range list {
			w.do(t, write(i%3, byte(80+i)), crash(uint64(i)))
			for _, other := range list {
				other.hold(t)
			}
		}
	}
}

// All sectors are copied, the first and the last one too.
func TestCopyOfManySectors(t *testing.T) {
	for _, n := range []int{1, 2, 300, most} {
		d := made(t, n)
		for at := 0; at < n; at += 3 {
			succeed(t, d, write(at, byte(at+1)))
		}
		succeed(t, d, write(n-1, 200), barrier(), write(0, 201))
		other := d.Copy()
		if other.Len() != n {
			t.Errorf("Len of a copy of %d: %d", n, other.Len())
		}
		giveUnsure(t, other, wrote(0, 201))
		succeed(t, d, write(n-1, 99), barrier(), crash(0))
		succeed(t, other, crash(0))
		for at := range n {
			want := byte(0)
			if at == n-1 {
				want = 200
			} else if at%3 == 0 {
				want = byte(at + 1)
			}
			giveRead(t, other, at, full(want))
		}
	}
}

// A limit is the copy's own: both go on to count from where it stood.
func TestCopyOfALimit(t *testing.T) {
	d := made(t, 2)
	succeed(t, d, limit(3), write(0, 1))
	other := d.Copy()
	succeed(t, d, write(0, 2))
	refuse(t, d, api.ErrDown, write(0, 3))
	giveDown(t, other, false)
	giveTags(t, other, 1, 0)
	succeed(t, other, barrier())
	third := other.Copy()
	refuse(t, other, api.ErrDown, barrier())
	giveDown(t, third, false)
	succeed(t, other, crash(0))
	refuse(t, third, api.ErrDown, write(1, 1))
	giveDown(t, other, false)
	giveDown(t, d, true)
}
