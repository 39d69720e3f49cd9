package sector_test

import (
	"math"
	"math/bits"
	"testing"

	"merestone/api"
)

// threeUnsure is a disk of four sectors, all sure, of which three were written again.
func threeUnsure(t *testing.T) *twin {
	t.Helper()
	w := twins(t, 4)
	w.do(t, write(0, 1), write(1, 2), write(2, 3), write(3, 4), barrier(), write(2, 13), write(0, 11), write(1, 12))
	return w
}

// Bit 0 is the first write's, whatever sector it is of.
func TestCrashOfThree(t *testing.T) {
	for mask, want := range [8][]byte{{1, 2, 3, 4}, {1, 2, 13, 4}, {11, 2, 3, 4}, {11, 2, 13, 4}, {1, 12, 3, 4}, {1, 12, 13, 4}, {11, 12, 3, 4}, {11, 12, 13, 4}} {
		for _, beyond := range []uint64{0, 1 << 3, 1 << 63, ^uint64(7)} {
			w := threeUnsure(t)
			w.do(t, crash(uint64(mask)|beyond))
			giveTags(t, w.disk, want...)
			giveUnsure(t, w.disk)
			giveDown(t, w.disk, false)
		}
	}
}

// Of several writes of one sector the last one that lasts counts, and not the last one that was.
func TestCrashOfOneSector(t *testing.T) {
	for mask := range uint64(1 << 6) {
		w := twins(t, 2)
		w.do(t, write(1, 100), barrier(), write(1, 1), write(1, 2), write(1, 3), write(1, 4), write(1, 5), write(1, 6), crash(mask))
		want := byte(100)
		if mask != 0 {
			want = byte(bits.Len64(mask))
		}
		giveTags(t, w.disk, 0, want)
	}
}

// A write of what the sector is already is one like others.
func TestCrashOfEqualWrites(t *testing.T) {
	w := twins(t, 2)
	w.do(t, write(0, 1), write(0, 1), write(0, 2), write(0, 2), write(1, 0), write(1, 5), crash(0b010110))
	giveTags(t, w.disk, 2, 0)
	w.do(t, write(0, 0), write(0, 2), write(0, 3), write(0, 3), write(1, 5), crash(0b10001))
	giveTags(t, w.disk, 0, 5)
}

func TestCrashWithNothingUnsure(t *testing.T) {
	for _, mask := range []uint64{0, 1, 1 << 63, math.MaxUint64} {
		w := twins(t, 3)
		w.do(t, crash(mask), write(0, 1), write(1, 2), barrier(), crash(mask), crash(mask))
		giveTags(t, w.disk, 1, 2, 0)
		w.do(t, write(0, 3), crash(1), crash(mask))
		giveTags(t, w.disk, 3, 2, 0)
		w.do(t, write(0, 4), crash(0), crash(mask))
		giveTags(t, w.disk, 3, 2, 0)
	}
}

// All is sure behind it: what lasted lasts, what was forgotten does not come back, and the writes are counted anew.
func TestAllIsSureBehindACrash(t *testing.T) {
	w := threeUnsure(t)
	w.do(t, crash(0b101))
	giveTags(t, w.disk, 1, 12, 13, 4)
	w.do(t, crash(0))
	giveTags(t, w.disk, 1, 12, 13, 4)
	w.do(t, crash(math.MaxUint64))
	giveTags(t, w.disk, 1, 12, 13, 4)
	w.do(t, write(3, 21), write(2, 22), barrier(), crash(0))
	giveTags(t, w.disk, 1, 12, 22, 21)
	w.do(t, write(3, 31), write(2, 32), crash(1))
	giveTags(t, w.disk, 1, 12, 22, 31)
}

// many is a disk with that many unsure writes, each of a sector of its own.
func many(t *testing.T, n int) *twin {
	t.Helper()
	w := twins(t, n)
	for at := range n {
		succeed(t, w.disk, write(at, byte(at+1)))
		succeed(t, w.judge, write(at, byte(at+1)))
	}
	w.hold(t)
	return w
}

// Bit k modulo 64 is that of the k-th.
func TestCrashOfMoreThan64(t *testing.T) {
	for _, n := range []int{63, 64, 65, 66, 127, 128, 129, 200} {
		whole := many(t, n)
		for bit := range 64 {
			for _, mask := range []uint64{1 << bit, ^uint64(1 << bit)} {
				w := whole.copied()
				w.do(t, crash(mask))
				for at := range n {
					want := byte(0)
					if (at%64 == bit) == (bits.OnesCount64(mask) == 1) {
						want = byte(at + 1)
					}
					giveRead(t, w.disk, at, full(want))
				}
			}
		}
	}
}

func TestCrashOfMoreThan64OfOneSector(t *testing.T) {
	for bit := range 64 {
		w := twins(t, 1)
		last := 0
		for k := range 150 {
			succeed(t, w.disk, write(0, byte(k+1)))
			if k%64 == bit {
				last = k
			}
		}
		succeed(t, w.disk, crash(1<<bit))
		giveTags(t, w.disk, byte(last+1))
	}
}

// A crash with the power gone by a limit is like one with it there; what was not done has no number.
func TestCrashBehindALimit(t *testing.T) {
	for mask := range uint64(1 << 4) {
		one, other := threeUnsure(t), threeUnsure(t)
		one.do(t, crash(mask))
		other.do(t, limit(1), write(3, 14), write(3, 24), barrier(), crash(mask))
		for at := range 4 {
			b, _ := one.disk.Read(at)
			giveRead(t, other.disk, at, b)
		}
		giveDown(t, other.disk, false)
	}
}

// A crash takes a limit away, be it one that was reached or one that was not.
func TestNoLimitBehindACrash(t *testing.T) {
	for n := 1; n <= 4; n++ {
		w := twins(t, 2)
		w.do(t, limit(n), write(0, 1), write(1, 2), crash(math.MaxUint64))
		giveDown(t, w.disk, false)
		for i := range 10 {
			succeed(t, w.disk, write(i%2, byte(i)), barrier())
		}
		giveDown(t, w.disk, false)
		succeed(t, w.disk, limit(n))
		for range n - 1 {
			succeed(t, w.disk, write(0, 9))
		}
		refuse(t, w.disk, api.ErrDown, write(0, 9))
	}
}

// The power goes and comes again and again.
func TestCrashAgainAndAgain(t *testing.T) {
	w := twins(t, 3)
	for i := range 40 {
		w.do(t, limit(i%5+1), write(0, byte(i)), write(i%3, byte(i+50)), barrier(), write(1, byte(i+100)), write(2, byte(i+150)), crash(uint64(i)*0x9E3779B97F4A7C15))
		giveDown(t, w.disk, false)
	}
}
