package pager_test

import (
	"fmt"
	"math"
	"slices"
	"testing"

	"merestone/api"
	"merestone/pager"
	"merestone/sector"
)

// masks are some of each kind: none, all, each bit, and some with several.
func masks() []uint64 {
	list := []uint64{0, math.MaxUint64, 3, 5, 6, 7, 0xAAAAAAAAAAAAAAAA, 0x5555555555555555, 0xFFFFFFFF00000000}
	for bit := range 64 {
		list = append(list, 1<<bit)
	}
	return list
}

// scene is a disk on which a root stands, and a Flip of the next one is to come.
type scene struct {
	disk     *sector.Disk
	pager    *pager.Pager
	seq      int
	old, new int
	stay     map[int]string // the pages that are in use, and stay
	goes     map[int]string // those that are free only behind the Flip
	fresh    map[int]string // those that New took for the Flip
}

// sceneOf answers the scene behind that many flips; opened tells whether the disk is opened anew ahead of the last one.
func sceneOf(t *testing.T, flips int, again bool) scene {
	t.Helper()
	d := disk(t, 16)
	s := scene{disk: d, pager: opened(t, d), seq: flips, stay: map[int]string{}, goes: map[int]string{}, fresh: map[int]string{}}
	for i := range flips {
		list := madeAll(t, s.pager, fmt.Sprint("root ", i), fmt.Sprint("leaf ", i))
		s.old = list[0]
		s.stay[list[0]], s.stay[list[1]] = fmt.Sprint("root ", i), fmt.Sprint("leaf ", i)
		give(t, "Flip", s.pager.Flip(s.old), api.OK)
	}
	if again {
		s.pager = opened(t, d)
		for page := range s.stay {
			give(t, "Use", s.pager.Use(page), api.OK)
		}
	}
	list := madeAll(t, s.pager, "new root", "new leaf", "at once", "new leaf too")
	give(t, "Free", s.pager.Free(list[2]), api.OK)
	s.new = list[0]
	s.fresh[list[0]], s.fresh[list[1]], s.fresh[list[3]] = "new root", "new leaf", "new leaf too"
	if flips > 0 {
		s.free(t, s.old)
	}
	return s
}

// free Frees a page.
func (s *scene) free(t *testing.T, page int) {
	t.Helper()
	give(t, "Free", s.pager.Free(page), api.OK)
	s.goes[page] = s.stay[page]
	delete(s.stay, page)
}

// hold opens the disk and asks for the root, old or new, and for all that has to be there then.
func (s *scene) hold(t *testing.T, tale string, isNew bool) {
	t.Helper()
	seq, root, there := s.seq, s.old, []map[int]string{s.stay, s.goes}
	if isNew {
		seq, root, there = s.seq+1, s.new, []map[int]string{s.stay, s.fresh}
	}
	p := opened(t, s.disk)
	if n, at := p.Root(); n != seq || at != root {
		t.Errorf("%s: Root %d, %d, not %d, %d", tale, n, at, seq, root)
	}
	if p.Room() != 14 {
		t.Errorf("%s: Room %d", tale, p.Room())
	}
	for _, pages := range there {
		for page, data := range pages {
			if b, e := p.Read(page); string(b) != data || e != api.OK {
				t.Errorf("%s: page %d has %s, error %d, not %q", tale, page, brief(b), e, data)
			}
		}
	}
}

// The power goes at each of a Flip's steps. Ahead of its write the root is the old one; then the first bit of the mask tells which one it is, as that write alone is unsure.
func TestFlipThatIsCutOff(t *testing.T) {
	for flips := range 4 {
		for step := 1; step <= 3; step++ {
			for _, again := range []bool{false, true} {
				for _, mask := range masks() {
					s := sceneOf(t, flips, again)
					tale := fmt.Sprintf("%d flips, again %t, the power gone at %d, mask %x", flips, again, step, mask)
					room := s.pager.Room()
					s.disk.Limit(step)
					give(t, tale, s.pager.Flip(s.new), api.ErrDown)
					giveRoot(t, s.pager, s.seq, s.old)
					giveRoom(t, s.pager, room)
					s.disk.Crash(mask)
					s.hold(t, tale, step == 3 && mask&1 == 1)
					s.disk.Crash(^mask)
					s.hold(t, tale, step == 3 && mask&1 == 1)
				}
			}
		}
	}
}

// Behind a Flip that was OK all is there, whatever is begun then and forgotten.
func TestCrashBehindAFlip(t *testing.T) {
	for flips := range 3 {
		for _, mask := range masks() {
			for begun := range 4 {
				s := sceneOf(t, flips, false)
				give(t, "Flip", s.pager.Flip(s.new), api.OK)
				var more []int
				for range begun {
					more = append(more, made(t, s.pager, "more"))
				}
				s.disk.Crash(mask)
				s.seq, s.old = s.seq+1, s.new
				for page, data := range s.fresh {
					if slices.Contains(more, page) {
						t.Errorf("page %d, which is in use, was taken", page)
					}
					s.stay[page] = data
				}
				s.goes = nil
				s.hold(t, fmt.Sprintf("%d flips, mask %x, %d pages behind", flips, mask, begun), false)
			}
		}
	}
}

// A page that is free only behind the next Flip is not taken by any New, so that it is as it was behind a Flip that was cut off.
func TestWhatAFlipThatWasCutOffWouldFree(t *testing.T) {
	for step := 1; step <= 3; step++ {
		for _, mask := range masks() {
			d := disk(t, 8)
			p := opened(t, d)
			old := madeAll(t, p, "root", "leaf", "leaf too")
			give(t, "Flip", p.Flip(old[0]), api.OK)
			give(t, "Free", p.Free(old...), api.OK)
			fresh := fill(t, p, 3)
			d.Limit(step)
			give(t, "Flip", p.Flip(fresh[2]), api.ErrDown)
			refuseNew(t, p, "more", api.ErrDown)
			d.Crash(mask)
			refuseNew(t, p, "more", api.ErrDown)
			p = opened(t, d)
			if seq, root := p.Root(); seq == 2 {
				giveRoot(t, p, 2, fresh[2])
				giveRead(t, p, root, "page 1")
				continue
			}
			giveRoot(t, p, 1, old[0])
			for i, data := range []string{"root", "leaf", "leaf too"} {
				giveRead(t, p, old[i], data)
			}
		}
	}
}

// A page that Use told of, and no Flip had, is as it was too.
func TestUsedAndFreedAheadOfAFlipThatIsCutOff(t *testing.T) {
	for step := 1; step <= 3; step++ {
		d := written(t, 6, filled(0), filled(0), sealed(2, "old"), sealed(2, "other"))
		p := opened(t, d)
		give(t, "Use", p.Use(2, 3), api.OK)
		give(t, "Free", p.Free(3), api.OK)
		pages := fill(t, p, 2)
		d.Limit(step)
		give(t, "Flip", p.Flip(pages[0]), api.ErrDown)
		d.Crash(0)
		p = opened(t, d)
		giveRoot(t, p, 0, 0)
		giveRead(t, p, 2, "old")
		giveRead(t, p, 3, "other")
	}
}

// Flips of one root after the other, each cut off at another step, or not; the last root that was flipped is there.
func TestFlipsWithCrashesBetween(t *testing.T) {
	for way := range 5 * 5 * 5 * 5 * 5 {
		d := disk(t, 6)
		p := opened(t, d)
		seq, root, data := 0, 0, ""
		for i, left := 0, way; i < 5; i, left = i+1, left/5 {
			// Nothing is cut off; or a Flip is, at one of its steps; or at the last one, and its write lasts.
			step, mask := left%5, uint64(0)
			if step == 4 {
				step, mask = 3, 1
			}
			next := fmt.Sprint("root ", i)
			if root != 0 {
				give(t, "Use", p.Use(root), api.OK)
				give(t, "Free", p.Free(root), api.OK)
			}
			page := made(t, p, next)
			d.Limit(step)
			if e := p.Flip(page); (e == api.ErrDown) != (step > 0) {
				t.Fatalf("way %d, flip %d: error %d", way, i, e)
			}
			if step == 0 || mask != 0 {
				seq, root, data = seq+1, page, next
			}
			d.Crash(mask)
			p = opened(t, d)
			giveRoot(t, p, seq, root)
			if root != 0 {
				giveRead(t, p, root, data)
			}
		}
	}
}

// The power may be let go at any write or barrier of a few deeds; the old root or a new one is there, with its data.
func TestPowerGoneAtAnyStep(t *testing.T) {
	for limit := 1; ; limit++ {
		cut := false
		for _, mask := range masks() {
			d := disk(t, 10)
			p := opened(t, d)
			base := madeAll(t, p, "base", "leaf")
			give(t, "Flip", p.Flip(base[0]), api.OK)
			d.Limit(limit)
			done := deedsOfTwoFlips(p, base)
			cut = d.Down()
			d.Crash(mask)
			holdTwoFlips(t, fmt.Sprintf("limit %d, mask %x", limit, mask), opened(t, d), base, done)
		}
		if !cut {
			return
		}
	}
}

// deedsOfTwoFlips does two flips, as long as the power is there, and answers the roots of those that were OK.
func deedsOfTwoFlips(p *pager.Pager, base []int) []int {
	var done []int
	old := base[0]
	for _, data := range []string{"first", "second"} {
		page, e := p.New([]byte(data))
		if e != api.OK || p.Free(old) != api.OK {
			return done
		}
		extra, e := p.New([]byte("extra"))
		if e != api.OK || p.Free(extra) != api.OK || p.Flip(page) != api.OK {
			return done
		}
		done, old = append(done, page), page
	}
	return done
}

func holdTwoFlips(t *testing.T, tale string, p *pager.Pager, base, done []int) {
	t.Helper()
	seq, root := p.Root()
	if seq < 1+len(done) || seq > min(3, 2+len(done)) {
		t.Errorf("%s: Root %d, %d behind %v", tale, seq, root, done)
	}
	if seq == 1+len(done) && root != append([]int{base[0]}, done...)[seq-1] {
		t.Errorf("%s: Root %d, %d behind %v", tale, seq, root, done)
	}
	want := []string{"", "base", "first", "second"}[seq]
	if b, e := p.Read(root); string(b) != want || e != api.OK {
		t.Errorf("%s: the root %d of %d has %s, error %d", tale, root, seq, brief(b), e)
	}
	if b, e := p.Read(base[1]); string(b) != "leaf" || e != api.OK {
		t.Errorf("%s: the leaf has %s, error %d", tale, brief(b), e)
	}
}

// A Crash that the Pager is not told of forgets what is unsure, and the Pager goes on with what the disk has.
func TestCrashWhileAPagerIsUsed(t *testing.T) {
	d := disk(t, 8)
	p := opened(t, d)
	pages := madeAll(t, p, "root", "leaf")
	give(t, "Flip", p.Flip(pages[0]), api.OK)
	for _, mask := range []uint64{0, math.MaxUint64} {
		d.Crash(mask)
		giveRoot(t, p, 1, pages[0])
		giveRoom(t, p, 4)
		giveRead(t, p, pages[0], "root")
		giveRead(t, p, pages[1], "leaf")
	}
	more := made(t, p, "more")
	d.Crash(math.MaxUint64)
	giveRoom(t, p, 3)
	giveRead(t, p, more, "more")
	give(t, "Free", p.Free(pages[0]), api.OK)
	d.Crash(0)
	giveRead(t, p, more, "more")
	give(t, "Flip", p.Flip(more), api.OK)
	giveRoom(t, p, 4)
	giveRoot(t, p, 2, more)
	d.Crash(0)
	giveRoot(t, opened(t, d), 2, more)
	giveRead(t, p, more, "more")
	giveRead(t, p, pages[1], "leaf")
}
