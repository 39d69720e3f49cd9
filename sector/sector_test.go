package sector_test

import (
	"math"
	"testing"

	"merestone/api"
	"merestone/sector"
)

func TestChapterExample(t *testing.T) {
	d := made(t, 4)
	succeed(t, d, write(1, 10), write(1, 20), crash(1))
	giveTags(t, d, 0, 10, 0, 0)
	d = made(t, 4)
	succeed(t, d, write(1, 10), barrier(), write(1, 20), crash(0))
	giveTags(t, d, 0, 10, 0, 0)
}

func TestNew(t *testing.T) {
	for _, n := range []int{1, 2, 3, 4, 64, 65, 1000, most - 1, most} {
		d, e := sector.New(n)
		if d == nil || e != api.OK || d.Len() != n || d.Down() || len(d.Unsure()) != 0 {
			t.Errorf("New(%d): %v, error %d", n, d, e)
		}
	}
	for _, n := range []int{0, -1, -2, -most, most + 1, most + 2, 2 * most, 1 << 32, 1<<32 + 1, 1<<62 + 4, -1 << 32, 4 - 1<<32, math.MaxInt, math.MinInt, math.MinInt + 4} {
		if d, e := sector.New(n); d != nil || e != api.ErrArg {
			t.Errorf("New(%d): %v, error %d", n, d, e)
		}
	}
}

func TestSectorsOfANewDisk(t *testing.T) {
	for _, n := range []int{1, 2, 100, most} {
		d := made(t, n)
		for at := range n {
			giveRead(t, d, at, noughts(512))
		}
		refuseRead(t, d, n, api.ErrArg)
	}
}

// noSectors are numbers that no sector of a disk of n has, some of which look like one's in fewer bits.
func noSectors(n int) []int {
	return []int{-1, -2, -n, -n - 1, n, n + 1, 2 * n, most, most + 1, 1 << 32, 1<<32 + n - 1, -1 << 32, n - 1 - 1<<32, math.MaxInt, math.MaxInt - n, math.MinInt, math.MinInt + 1, math.MinInt + n - 1}
}

func TestFirstAndLastSector(t *testing.T) {
	for _, n := range []int{1, 2, 3, 70, most} {
		d := made(t, n)
		succeed(t, d, write(n-1, 7))
		giveRead(t, d, n-1, full(7))
		if n > 1 {
			giveRead(t, d, 0, full(0))
			giveRead(t, d, n-2, full(0))
		}
		succeed(t, d, write(0, 8), barrier())
		giveRead(t, d, 0, full(8))
		if n > 1 {
			giveRead(t, d, n-1, full(7))
		}
	}
}

// Such a write is refused, and nothing is written, nor unsure.
func TestNoSuchSector(t *testing.T) {
	for _, n := range []int{1, 2, 3, 70, most - 1} {
		w := twins(t, n)
		w.do(t, write(0, 1), write(n-1, 2))
		for _, at := range noSectors(n) {
			refuseRead(t, w.disk, at, api.ErrArg)
			refuse(t, w.disk, api.ErrArg, write(at, 9), writeOf(at, 0), writeOf(at, 513))
		}
		w.hold(t)
		w.do(t, barrier())
		for _, at := range noSectors(n) {
			refuse(t, w.disk, api.ErrArg, write(at, 9))
			refuseRead(t, w.disk, at, api.ErrArg)
		}
		w.hold(t)
	}
}

func TestListsOfAnotherLength(t *testing.T) {
	w := twins(t, 3)
	w.do(t, write(0, 1), barrier(), write(1, 2))
	for _, length := range []int{0, 1, 2, 256, 510, 511, 513, 514, 1024, 65536, 65536 + 512} {
		for at := range 3 {
			refuse(t, w.disk, api.ErrArg, writeOf(at, length))
		}
	}
	if e := w.disk.Write(0, nil); e != api.ErrArg {
		t.Errorf("Write of nil: error %d", e)
	}
	w.hold(t)
	w.do(t, writeOf(2, 512))
	giveRead(t, w.disk, 2, mixed(512, 3))
}

// It is how long a list is that counts, not how much room it has.
func TestListsWithRoom(t *testing.T) {
	room := mixed(2000, 4)
	d := made(t, 1)
	for _, length := range []int{511, 513} {
		if e := d.Write(0, room[:length]); e != api.ErrArg {
			t.Errorf("%d bytes of %d: error %d", length, cap(room), e)
		}
	}
	if e := d.Write(0, room[:512]); e != api.OK {
		t.Errorf("512 bytes of %d: error %d", cap(room), e)
	}
	giveRead(t, d, 0, room[:512])
}

// A sector is what was written last, be that sure or not; the others are as they were.
func TestReadOfWhatWasWritten(t *testing.T) {
	w := twins(t, 5)
	w.do(t, write(2, 1), write(3, 2), write(2, 3), write(2, 3), barrier(), write(3, 4), write(0, 5), barrier(), barrier(), write(2, 0), write(4, 6), write(2, 7))
	giveTags(t, w.disk, 5, 0, 7, 4, 6)
}

// All of a sector is written, whatever is in it.
func TestWriteOfAnyBytes(t *testing.T) {
	d := made(t, 2)
	for seed := range uint64(50) {
		b := mixed(512, seed)
		if e := d.Write(1, b); e != api.OK {
			t.Errorf("seed %d: error %d", seed, e)
		}
		giveRead(t, d, 1, b)
		giveRead(t, d, 0, noughts(512))
	}
}

func TestBarrierWithNothingUnsure(t *testing.T) {
	w := twins(t, 2)
	w.do(t, barrier(), barrier(), write(0, 1), barrier(), barrier(), barrier())
	giveTags(t, w.disk, 1, 0)
}

// Len is what New was told, whatever is done.
func TestLen(t *testing.T) {
	for _, n := range []int{1, 2, 70, most} {
		d := made(t, n)
		for _, x := range []deed{write(0, 1), write(n-1, 2), barrier(), write(0, 3), limit(1), write(0, 4), write(0, 5), crash(0), barrier(), write(-1, 6), limit(-1)} {
			x.do(d)
			if d.Len() != n {
				t.Errorf("New(%d), %s: Len %d", n, x.name, d.Len())
			}
		}
	}
}

func TestUnsure(t *testing.T) {
	d := made(t, 4)
	giveUnsure(t, d)
	succeed(t, d, write(3, 1))
	giveUnsure(t, d, wrote(3, 1))
	succeed(t, d, write(0, 2), write(3, 1), write(3, 0))
	giveUnsure(t, d, wrote(3, 1), wrote(0, 2), wrote(3, 1), wrote(3, 0))
	refuse(t, d, api.ErrArg, write(4, 1), writeOf(1, 511), limit(-1))
	giveUnsure(t, d, wrote(3, 1), wrote(0, 2), wrote(3, 1), wrote(3, 0))
	succeed(t, d, limit(2), write(1, 3))
	refuse(t, d, api.ErrDown, barrier(), barrier(), write(1, 4))
	giveUnsure(t, d, wrote(3, 1), wrote(0, 2), wrote(3, 1), wrote(3, 0), wrote(1, 3))
	succeed(t, d, crash(1))
	giveUnsure(t, d)
	succeed(t, d, write(2, 5), barrier())
	giveUnsure(t, d)
	succeed(t, d, write(2, 5))
	giveUnsure(t, d, wrote(2, 5))
}

func TestManyUnsure(t *testing.T) {
	d := made(t, 7)
	var want []api.Write
	for i := range 3000 {
		want = append(want, wrote(i%7, byte(i)))
		succeed(t, d, write(i%7, byte(i)))
	}
	giveUnsure(t, d, want...)
	succeed(t, d, barrier())
	giveUnsure(t, d)
}
