package sector_test

import (
	"math"
	"testing"

	"merestone/api"
)

// downOf is a disk of three sectors without power: 0 is sure, 1 was written and is unsure.
func downOf(t *testing.T) *twin {
	t.Helper()
	w := twins(t, 3)
	w.do(t, write(0, 1), barrier(), write(1, 2), limit(1), write(2, 3))
	return w
}

// The n-th one isn't done, all ahead of it are.
func TestLimitOfWrites(t *testing.T) {
	for n := 1; n <= 20; n++ {
		d := made(t, 20)
		succeed(t, d, limit(n))
		var want []api.Write
		for i := range n - 1 {
			succeed(t, d, write(i, byte(i+1)))
			giveRead(t, d, i, full(byte(i+1)))
			want = append(want, wrote(i, byte(i+1)))
		}
		giveDown(t, d, false)
		refuse(t, d, api.ErrDown, write(n-1, 77))
		giveDown(t, d, true)
		giveUnsure(t, d, want...)
		succeed(t, d, crash(math.MaxUint64))
		giveRead(t, d, n-1, full(0))
		for i := range n - 1 {
			giveRead(t, d, i, full(byte(i+1)))
		}
	}
}

func TestLimitOfBarriers(t *testing.T) {
	for n := 1; n <= 20; n++ {
		d := made(t, 2)
		succeed(t, d, write(0, 1), limit(n))
		for range n - 1 {
			succeed(t, d, barrier())
		}
		giveDown(t, d, false)
		refuse(t, d, api.ErrDown, barrier())
		giveDown(t, d, true)
		succeed(t, d, crash(0))
		if n == 1 {
			giveTags(t, d, 0, 0)
		} else {
			giveTags(t, d, 1, 0)
		}
	}
}

// A barrier that isn't done makes nothing sure.
func TestBarrierAtTheLimit(t *testing.T) {
	w := twins(t, 3)
	w.do(t, write(0, 1), write(1, 2), limit(1), barrier())
	giveUnsure(t, w.disk, wrote(0, 1), wrote(1, 2))
	w.do(t, crash(2))
	giveTags(t, w.disk, 0, 2, 0)
}

// Writes and barriers are counted together, in whatever order they come.
func TestLimitOfBoth(t *testing.T) {
	for n := range 9 {
		for order := range 1 << 8 {
			w := twins(t, 8)
			w.do(t, limit(n))
			for i := range 8 {
				if order>>i&1 == 1 {
					w.do(t, barrier())
				} else {
					w.do(t, write(i, byte(i+1)))
				}
				if down := n > 0 && i+1 >= n; w.disk.Down() != down {
					t.Errorf("%s: Down %t", w, !down)
				}
			}
			w.do(t, crash(0x55))
		}
	}
}

// What is refused is none that would be done, nor is anything else.
func TestWhatALimitDoesNotCount(t *testing.T) {
	for n := 1; n <= 4; n++ {
		w := twins(t, 2)
		w.do(t, limit(n))
		idle := func() {
			w.do(t, write(-1, 9), write(2, 9), write(math.MaxInt, 9), writeOf(0, 511), writeOf(0, 513), writeOf(1, 0), writeOf(-1, 0), limit(-1), limit(math.MinInt))
			w.disk.Read(0)
			w.disk.Read(7)
			w.disk.Unsure()
			w.disk.Copy().Write(0, full(9))
			w.disk.Copy().Barrier()
		}
		for i := range n - 1 {
			idle()
			w.do(t, write(i%2, byte(i)))
		}
		idle()
		giveDown(t, w.disk, false)
		w.do(t, write(0, 8))
		giveDown(t, w.disk, true)
	}
}

func TestNoLimit(t *testing.T) {
	d := made(t, 2)
	for i := range 1000 {
		if i == 300 || i == 600 {
			succeed(t, d, limit(0))
		}
		succeed(t, d, write(i%2, byte(i)), barrier())
	}
	giveDown(t, d, false)
}

// A later limit counts from then on, and takes the place of the one ahead of it.
func TestLimitAnew(t *testing.T) {
	d := made(t, 2)
	succeed(t, d, limit(2), write(0, 1), limit(2), write(0, 2))
	refuse(t, d, api.ErrDown, write(0, 3))
	d = made(t, 2)
	succeed(t, d, limit(1), limit(3), write(0, 1), barrier())
	refuse(t, d, api.ErrDown, barrier())
	d = made(t, 2)
	succeed(t, d, limit(5), limit(1))
	refuse(t, d, api.ErrDown, write(0, 1))
	d = made(t, 2)
	succeed(t, d, limit(2), write(0, 1), limit(0), write(0, 2), write(0, 3), barrier(), write(1, 4))
	giveDown(t, d, false)
	giveTags(t, d, 3, 4)
}

func TestGreatLimits(t *testing.T) {
	for _, n := range []int{1 << 31, 1 << 32, 1<<32 + 1, 1 << 62, math.MaxInt} {
		w := twins(t, 2)
		w.do(t, limit(n), write(0, 1), barrier(), write(1, 2), barrier(), write(0, 3), limit(n), write(1, 4))
		giveDown(t, w.disk, false)
	}
}

// Whether there is a limit or none, and with the power gone too.
func TestLimitBelowNought(t *testing.T) {
	for _, n := range []int{-1, -2, -512, -1 << 31, 1 - 1<<32, math.MinInt, math.MinInt + 1} {
		d := made(t, 2)
		refuse(t, d, api.ErrArg, limit(n))
		succeed(t, d, write(0, 1), barrier(), write(1, 2), barrier())
		succeed(t, d, limit(2))
		refuse(t, d, api.ErrArg, limit(n))
		giveDown(t, d, false)
		succeed(t, d, write(0, 3))
		refuse(t, d, api.ErrArg, limit(n))
		refuse(t, d, api.ErrDown, write(0, 4))
		refuse(t, d, api.ErrArg, limit(n))
		giveDown(t, d, true)
		giveUnsure(t, d, wrote(0, 3))
		succeed(t, d, crash(1))
		giveTags(t, d, 3, 2)
	}
}

// Behind the limit nothing is done till a crash, by whatever is called, and however often.
func TestNothingBehindTheLimit(t *testing.T) {
	w := downOf(t)
	giveUnsure(t, w.disk, wrote(1, 2))
	for range 5 {
		w.do(t, write(0, 9), write(1, 9), barrier(), write(2, 9), barrier(), barrier(), write(1, 9))
		giveDown(t, w.disk, true)
	}
	giveUnsure(t, w.disk, wrote(1, 2))
	w.do(t, crash(1))
	giveTags(t, w.disk, 1, 2, 0)
}

// A limit does not bring the power back, nor is it there behind the crash.
func TestLimitWhileThePowerIsGone(t *testing.T) {
	for _, n := range []int{0, 1, 2, 5, math.MaxInt} {
		w := downOf(t)
		succeed(t, w.disk, limit(n))
		w.do(t, limit(n), write(0, 9), barrier(), write(1, 9))
		giveDown(t, w.disk, true)
		w.do(t, crash(1))
		giveDown(t, w.disk, false)
		for i := range 12 {
			w.do(t, write(i%3, byte(i)), barrier())
		}
		giveDown(t, w.disk, false)
	}
}

// The power gone is told ahead of a number that is none, and of a list that is too short or too long.
func TestPowerGoneAheadOfTheRest(t *testing.T) {
	w := downOf(t)
	for _, at := range append(noSectors(3), 0, 1, 2) {
		refuseRead(t, w.disk, at, api.ErrDown)
		refuse(t, w.disk, api.ErrDown, write(at, 9), writeOf(at, 0), writeOf(at, 511), writeOf(at, 513))
	}
	if e := w.disk.Write(-1, nil); e != api.ErrDown {
		t.Errorf("Write(-1, nil): error %d", e)
	}
	refuse(t, w.disk, api.ErrDown, barrier())
	refuse(t, w.disk, api.ErrArg, limit(-1))
	w.hold(t)
}

// The call at which the power would go is refused for what is wrong with it first, and the power stays.
func TestWrongWriteAtTheLimit(t *testing.T) {
	d := made(t, 2)
	succeed(t, d, limit(1))
	refuse(t, d, api.ErrArg, write(2, 1), write(-1, 1), writeOf(0, 511), writeOf(0, 513), writeOf(2, 0))
	giveDown(t, d, false)
	giveTags(t, d, 0, 0)
	refuse(t, d, api.ErrDown, write(1, 1))
	giveDown(t, d, true)
}
