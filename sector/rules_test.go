package sector_test

import (
	"bytes"
	"math"
	"slices"
	"sync"
	"testing"

	"merestone/api"
	"merestone/sector"
)

// Of a nil Disk each call answers that it is none, whatever else is wrong, again and again.
func TestNilDisk(t *testing.T) {
	var d *sector.Disk
	for range 3 {
		for _, at := range []int{0, 1, -1, most, math.MaxInt, math.MinInt} {
			refuseRead(t, d, at, api.ErrArg)
			refuse(t, d, api.ErrArg, write(at, 1), writeOf(at, 0), writeOf(at, 513))
		}
		for _, n := range []int{0, 1, 2, -1, math.MaxInt, math.MinInt} {
			refuse(t, d, api.ErrArg, limit(n))
		}
		refuse(t, d, api.ErrArg, barrier(), crash(0), crash(1), crash(math.MaxUint64))
		if d.Len() != 0 || !d.Down() || len(d.Unsure()) != 0 || d.Copy() != nil {
			t.Errorf("a nil Disk: Len %d, Down %t, Unsure %s, Copy %v", d.Len(), d.Down(), shown(d.Unsure()), d.Copy())
		}
	}
}

// A Disk that New did not make has no sector; it is asked all the same.
func TestDiskOfNothing(t *testing.T) {
	for _, d := range []*sector.Disk{{}, new(sector.Disk).Copy()} {
		refuseRead(t, d, 0, api.ErrArg)
		refuse(t, d, api.ErrArg, write(0, 1), writeOf(0, 0), limit(-1))
		succeed(t, d, barrier(), crash(math.MaxUint64), limit(1))
		refuse(t, d, api.ErrDown, barrier(), write(0, 1))
		succeed(t, d, crash(0), barrier())
		giveUnsure(t, d)
		giveDown(t, d, false)
		if d.Len() != 0 {
			t.Errorf("Len %d", d.Len())
		}
	}
}

// All calls that can be made of a disk of two sectors, with few numbers.
func calls() []deed {
	return []deed{
		write(0, 1), write(0, 2), write(1, 3), write(1, 0), write(2, 4), writeOf(0, 511),
		barrier(), limit(-1), limit(0), limit(1), limit(2), limit(3),
		crash(0), crash(1), crash(2), crash(5), crash(math.MaxUint64),
	}
}

// All ways of a few calls, one after the other, done from the beginning and held against the judge behind each.
func TestAllWaysOfFewCalls(t *testing.T) {
	list := calls()
	var on func(way []deed)
	on = func(way []deed) {
		if len(way) == 3 {
			w := twins(t, 2)
			w.do(t, way...)
			return
		}
		for _, x := range list {
			on(append(slices.Clone(way), x))
		}
	}
	on(nil)
}

// All ways of some more, which part by copies; what is copied stays as it is.
func TestAllWaysByCopies(t *testing.T) {
	list := calls()
	var on func(w *twin, left int)
	on = func(w *twin, left int) {
		if left == 0 || t.Failed() {
			return
		}
		for _, x := range list {
			next := w.copied()
			next.do(t, x)
			on(next, left-1)
		}
		w.hold(t)
	}
	on(twins(t, 2), 4)
}

// from is a source of numbers in no order, the same ones for the same seed.
type from struct {
	bytes []byte
}

func (f *from) below(n int) int {
	v := int(f.bytes[0])<<8 | int(f.bytes[1])
	f.bytes = f.bytes[2:]
	return v % n
}

// chance answers a call of a disk of n sectors; seldom is how seldom a crash or a limit comes.
func (f *from) chance(n, seldom int) deed {
	switch f.below(seldom) {
	case 0:
		return crash(uint64(f.below(1<<16)) * 0x0001000300070011)
	case 1:
		return limit(f.below(2 * seldom))
	case 2, 3:
		return barrier()
	case 4:
		return writeOf(f.below(n), 500+f.below(20))
	}
	return write(f.below(n+2)-1, byte(f.below(256)))
}

func TestManyCallsInNoOrder(t *testing.T) {
	for seed, c := range []struct{ sectors, seldom, calls int }{
		{1, 6, 600}, {2, 8, 800}, {3, 12, 800}, {4, 20, 800}, {5, 200, 700}, {40, 30, 500}, {90, 400, 700}, {300, 100, 400}, {most, 40, 300},
	} {
		f := &from{mixed(20000, uint64(seed))}
		w := twins(t, c.sectors)
		for i := range c.calls {
			w.do(t, f.chance(c.sectors, c.seldom))
			if i%50 == 0 {
				w = w.copied()
			}
			if w.judge.down && f.below(3) == 0 {
				w.do(t, crash(uint64(f.below(1<<16))))
			}
			if t.Failed() {
				return
			}
			w.tale = nil
		}
	}
}

// Memory

// spoil writes over a list and over its spare room.
func spoil(b []byte) {
	room := b[:cap(b)]
	for i := range room {
		room[i] ^= 0xA5
	}
}

// What is handed in stays as it is, its spare room too, whether it is refused or not.
func TestListsStayAsTheyAre(t *testing.T) {
	w := downOf(t)
	for _, d := range []*sector.Disk{made(t, 3), w.disk, nil} {
		for _, length := range []int{0, 1, 511, 512, 513, 2000} {
			for _, spare := range []int{0, 1, 8, 512, 600} {
				room := mixed(length+spare, 9)
				before := slices.Clone(room)
				for _, at := range []int{0, 1, 3, -1} {
					d.Write(at, room[:length])
					d.Barrier()
					d.Write(at, room[:length])
					d.Crash(0)
					d.Write(at, full(1))
					d.Read(at)
				}
				if !bytes.Equal(room, before) {
					t.Errorf("%d bytes with %d to spare became %s", length, spare, brief(room))
				}
			}
		}
	}
}

// A list that was written is the caller's again: whatever is made of it behind the call, the disk has what it was.
func TestListsAreNotKept(t *testing.T) {
	for _, spare := range []int{0, 8, 600} {
		for _, behind := range []deed{barrier(), crash(1), crash(0), limit(5), write(0, 9)} {
			w := twins(t, 3)
			b := append(full(4), mixed(spare, 1)...)[:512]
			succeed(t, w.judge, write(1, 4))
			if e := w.disk.Write(1, b); e != api.OK {
				t.Fatalf("error %d", e)
			}
			spoil(b)
			w.hold(t)
			w.do(t, behind)
			spoil(b)
			w.hold(t)
			w.do(t, write(2, 5), barrier(), crash(0))
		}
	}
}

// One list that is written twice, with another thing in it, is two writes.
func TestOneListWrittenTwice(t *testing.T) {
	d := made(t, 3)
	b := full(1)
	d.Write(0, b)
	copy(b, full(2))
	d.Write(1, b)
	copy(b, full(3))
	d.Write(0, b)
	spoil(b)
	giveUnsure(t, d, wrote(0, 1), wrote(1, 2), wrote(0, 3))
	giveTags(t, d, 3, 2, 0)
	succeed(t, d, crash(3))
	giveTags(t, d, 1, 2, 0)
}

// answers are all lists that a disk of three sectors answers.
func answers(d *sector.Disk) [][]byte {
	var list [][]byte
	for at := range 3 {
		b, _ := d.Read(at)
		list = append(list, b)
	}
	for _, w := range d.Unsure() {
		list = append(list, w.Data)
	}
	return list
}

// What is done with an answer, its spare room too, is seen neither in the disk, nor in its copy, nor in another answer.
func TestAnswersAreNewMemory(t *testing.T) {
	for name, w := range states(t) {
		other := w.copied()
		// All are there ahead of the first that is spoilt.
		all := slices.Concat(answers(w.disk), answers(w.disk), answers(other.disk), answers(other.disk))
		for i, b := range all {
			var before [][]byte
			for _, other := range all {
				before = append(before, bytes.Clone(other))
			}
			spoil(b)
			for k := range all {
				if k != i && !bytes.Equal(all[k], before[k]) {
					t.Errorf("%s: answers %d and %d have memory in common", name, i, k)
				}
			}
			w.hold(t)
			other.hold(t)
		}
		w.do(t, crash(1))
		other.do(t, crash(2))
	}
}

// The list that Unsure answers is the caller's too, not only what was written.
func TestUnsureIsNewMemory(t *testing.T) {
	w := twins(t, 3)
	w.do(t, write(0, 1), write(1, 2))
	one, two := w.disk.Unsure(), w.disk.Unsure()
	one[0], one[1] = wrote(2, 9), wrote(2, 8)
	_ = append(one[:1], wrote(2, 7), wrote(2, 6), wrote(2, 5))
	if !sameWrites(two, []api.Write{wrote(0, 1), wrote(1, 2)}) {
		t.Errorf("another answer became %s", shown(two))
	}
	w.hold(t)
	two = append(two, wrote(2, 9))
	two[0].At = 2
	w.do(t, write(2, 3))
	w.do(t, crash(7))
}

// An answer stays what it was, whatever is done to the disk then.
func TestAnswersStayAsTheyAre(t *testing.T) {
	d := made(t, 3)
	succeed(t, d, write(0, 1), barrier(), write(1, 2), write(0, 3))
	read, list := answers(d), d.Unsure()
	succeed(t, d, write(0, 5), write(1, 6), write(2, 7), barrier(), write(0, 8), crash(0), limit(1))
	refuse(t, d, api.ErrDown, barrier())
	for i, tag := range []byte{3, 2, 0, 2, 3} {
		if !bytes.Equal(read[i], full(tag)) {
			t.Errorf("answer %d became %s", i, brief(read[i]))
		}
	}
	if !sameWrites(list, []api.Write{wrote(1, 2), wrote(0, 3)}) {
		t.Errorf("Unsure became %s", shown(list))
	}
}

// The same calls, done again from the beginning, have the same answers, whatever is done to other disks in between.
func TestNothingIsKept(t *testing.T) {
	other := made(t, 3)
	for range 3 {
		for _, deeds := range ways() {
			for name := range states(t) {
				w := states(t)[name]
				w.do(t, deeds...)
				other.Write(1, full(99))
				other.Limit(1)
				other.Barrier()
				w.hold(t)
				other.Crash(1)
				w.hold(t)
			}
		}
	}
}

// Disks that several use at one time, each its own, have nothing in common, nor have copies of one.
func TestDisksAtOneTime(t *testing.T) {
	whole := twins(t, 4)
	whole.do(t, write(0, 1), barrier(), write(1, 2), limit(30))
	var group sync.WaitGroup
	for worker := range 8 {
		w := whole.copied()
		group.Go(func() {
			f := &from{mixed(20000, uint64(100+worker))}
			for range 300 {
				w.do(t, f.chance(4, 12))
				w.tale = nil
			}
		})
	}
	group.Wait()
	whole.hold(t)
}
