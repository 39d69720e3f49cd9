package pager_test

import (
	"bytes"
	"fmt"
	"testing"

	"merestone/api"
	"merestone/sector"
)

// What can't be a root is refused, and neither the Pager nor the disk has changed.
func TestFlipOfWhatIsNoRoot(t *testing.T) {
	d := disk(t, 10)
	p := opened(t, d)
	pages := madeAll(t, p, "root", "freed", "free", "at once")
	give(t, "Free", p.Free(pages[2]), api.OK)
	give(t, "Flip", p.Flip(pages[0]), api.OK)
	give(t, "Free", p.Free(pages[1]), api.OK)
	last := made(t, p, "at once")
	give(t, "Free", p.Free(last), api.OK)
	refused := append(nones(10)[1:], pages[1], pages[2], last)
	for page := 2; page < 10; page++ {
		if page != pages[0] && page != pages[3] {
			refused = append(refused, page)
		}
	}
	room, before, unsure := p.Room(), image(t, d), len(d.Unsure())
	d.Limit(1)
	for _, root := range refused {
		give(t, fmt.Sprintf("Flip(%d)", root), p.Flip(root), api.ErrArg)
		giveRoot(t, p, 1, pages[0])
		giveRoom(t, p, room)
	}
	if d.Down() || !sameImage(image(t, d), before) || len(d.Unsure()) != unsure {
		t.Errorf("a Flip that was refused did something with the disk")
	}
	d.Limit(0)
	give(t, "Flip", p.Flip(pages[3]), api.OK)
	giveRoot(t, opened(t, d), 2, pages[3])
}

// Behind Open no page is in use, the root neither.
func TestFlipOfARootThatIsNotUsed(t *testing.T) {
	d := disk(t, 6)
	p := opened(t, d)
	root := made(t, p, "root")
	give(t, "Flip", p.Flip(root), api.OK)
	p = opened(t, d)
	give(t, "Flip", p.Flip(root), api.ErrArg)
	giveRoot(t, p, 1, root)
	give(t, "Use", p.Use(root), api.OK)
	give(t, "Flip", p.Flip(root), api.OK)
	giveRoot(t, p, 2, root)
	giveRoot(t, opened(t, d), 2, root)
}

// A root may be one that Use told of and nobody wrote, the same one again, and none.
func TestFlipOfAllThatMayBe(t *testing.T) {
	d := disk(t, 8)
	p := opened(t, d)
	give(t, "Use", p.Use(7, 5), api.OK)
	page := made(t, p, "new")
	for i, root := range []int{0, 0, 7, 7, page, 5, 0, page, page, 7} {
		give(t, fmt.Sprintf("Flip(%d)", root), p.Flip(root), api.OK)
		giveRoot(t, p, i+1, root)
		giveRoot(t, opened(t, d), i+1, root)
		giveRoom(t, p, 3)
	}
}

// Which error is told first.
func TestFlipWhichError(t *testing.T) {
	d := disk(t, 6)
	p := opened(t, d)
	d.Limit(1)
	give(t, "Flip of no page", p.Flip(1), api.ErrArg)
	d.Barrier()
	for _, root := range append(nones(6), 2) {
		give(t, fmt.Sprintf("Flip(%d) without power", root), p.Flip(root), api.ErrDown)
	}
	d.Crash(0)
	for _, root := range append(nones(6), 2) {
		give(t, fmt.Sprintf("Flip(%d) behind it", root), p.Flip(root), api.ErrDown)
	}
}

// unsureAt are the sectors of the writes that are unsure.
func unsureAt(d *sector.Disk) []int {
	var list []int
	for _, w := range d.Unsure() {
		list = append(list, w.At)
	}
	return list
}

// A Flip does a barrier, one write of a root's sector, and a barrier: the power is let go at each, and what is unsure then tells what was done.
func TestWhatAFlipDoesOfTheDisk(t *testing.T) {
	for flips := range 4 {
		for n := 1; n <= 4; n++ {
			d := disk(t, 10)
			p := opened(t, d)
			for range flips {
				give(t, "Flip", p.Flip(0), api.OK)
			}
			pages := madeAll(t, p, "a", "b", "c")
			before := fmt.Sprint(unsureAt(d))
			d.Limit(n)
			e := p.Flip(pages[1])
			list := unsureAt(d)
			if want := n <= 3; (e == api.ErrDown) != want || d.Down() != want || !want && e != api.OK {
				t.Errorf("with the power gone at %d: error %d", n, e)
			}
			switch {
			case n == 1 && fmt.Sprint(list) != before:
				t.Errorf("ahead of the first barrier %v is unsure, not %s", list, before)
			case n == 2 && len(list) != 0:
				t.Errorf("behind the first barrier %v is unsure", list)
			case n == 3 && (len(list) != 1 || list[0] != 0 && list[0] != 1):
				t.Errorf("behind the write %v is unsure", list)
			case n == 4 && len(list) != 0:
				t.Errorf("behind the second barrier %v is unsure", list)
			}
			if n == 4 && d.Barrier() != api.ErrDown {
				t.Errorf("a Flip did less than two barriers and a write")
			}
		}
	}
}

// A Flip changes the sector of a root that is not the last one's, and no page.
func TestWhichSectorsAFlipChanges(t *testing.T) {
	d := disk(t, 8)
	p := opened(t, d)
	pages := madeAll(t, p, "a", "b")
	last := -1
	for i := range 12 {
		before := image(t, d)
		give(t, "Flip", p.Flip(pages[i%2]), api.OK)
		var changed []int
		for at, b := range image(t, d) {
			if !bytes.Equal(b, before[at]) {
				changed = append(changed, at)
			}
		}
		if len(changed) != 1 || changed[0] > 1 || changed[0] == last {
			t.Errorf("flip %d changed the sectors %v, the one ahead of it %d", i+1, changed, last)
		}
		last = changed[0]
		if i%3 == 0 {
			p = opened(t, d)
			give(t, "Use", p.Use(pages...), api.OK)
		}
	}
}

// Behind OK the root and all pages in use are sure, whatever a Crash forgets.
func TestFlipMakesAllSure(t *testing.T) {
	for _, mask := range []uint64{0, 1, 2, 1 << 63, ^uint64(0)} {
		d := disk(t, 200)
		p := opened(t, d)
		var pages []int
		for i := range 100 {
			pages = append(pages, made(t, p, fmt.Sprint("page ", i)))
		}
		give(t, "Free", p.Free(pages[50]), api.OK)
		give(t, "Flip", p.Flip(pages[99]), api.OK)
		if len(d.Unsure()) != 0 {
			t.Errorf("behind a Flip %v is unsure", unsureAt(d))
		}
		d.Crash(mask)
		p = opened(t, d)
		giveRoot(t, p, 1, pages[99])
		for i, page := range pages {
			if i != 50 {
				giveRead(t, p, page, fmt.Sprint("page ", i))
			}
		}
	}
}

// What is free behind each Flip, step by step.
func TestWhatIsFreeBehindFlips(t *testing.T) {
	d := disk(t, 10)
	p := opened(t, d)
	pages := madeAll(t, p, "a", "b", "c", "d")
	giveRoom(t, p, 4)
	give(t, "Free at once", p.Free(pages[3]), api.OK)
	giveRoom(t, p, 5)
	give(t, "Flip", p.Flip(pages[0]), api.OK)
	giveRoom(t, p, 5)
	give(t, "Free", p.Free(pages[1]), api.OK)
	giveRoom(t, p, 5)
	give(t, "Flip of what is no root", p.Flip(pages[1]), api.ErrArg)
	giveRoom(t, p, 5)
	more := made(t, p, "e")
	giveRoom(t, p, 4)
	give(t, "Flip", p.Flip(more), api.OK)
	giveRoom(t, p, 5)
	give(t, "Free of the root ahead, and of one that is free", p.Free(pages[0], pages[1]), api.OK)
	giveRoom(t, p, 5)
	give(t, "Free and Use", p.Free(pages[2]), api.OK)
	give(t, "Free and Use", p.Use(pages[2]), api.OK)
	give(t, "Flip", p.Flip(0), api.OK)
	giveRoom(t, p, 6)
	give(t, "Flip", p.Flip(0), api.OK)
	giveRoom(t, p, 6)
	giveRead(t, p, more, "e")
	giveRead(t, p, pages[2], "c")
	fill(t, p, 6)
	giveRead(t, p, more, "e")
	giveRead(t, p, pages[2], "c")
}
