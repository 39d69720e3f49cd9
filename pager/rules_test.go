package pager_test

import (
	"bytes"
	"fmt"
	"math"
	"slices"
	"sync"
	"testing"

	"merestone/api"
	"merestone/pager"
)

// Of a nil Pager each call answers that it is none, whatever else is wrong, again and again.
func TestNilPager(t *testing.T) {
	var p *pager.Pager
	for range 3 {
		for _, page := range append(nones(4), 2, 3) {
			for name, ask := range askers(page) {
				give(t, name, ask(p), api.ErrArg)
			}
			refuseRead(t, p, page, api.ErrArg)
			give(t, "Use", p.Use(page, 2, page), api.ErrArg)
			give(t, "Free", p.Free(2, page), api.ErrArg)
		}
		refuseNew(t, p, "", api.ErrArg)
		giveRoot(t, p, 0, 0)
		giveRoom(t, p, 0)
	}
}

// A Pager that Open did not make has no page; it is asked all the same.
func TestPagerOfNothing(t *testing.T) {
	for _, p := range []*pager.Pager{{}, {Disk: disk(t, 4)}} {
		for range 3 {
			giveRoot(t, p, 0, 0)
			giveRoom(t, p, 0)
			for _, page := range append(nones(4), 2, 3) {
				refuseRead(t, p, page, api.ErrArg)
				give(t, "Use", p.Use(page), api.ErrArg)
				give(t, "Free", p.Free(page), api.ErrArg)
				if page != 0 {
					give(t, "Flip", p.Flip(page), api.ErrArg)
				}
			}
			if page, e := p.New(nil); page != 0 || e == api.OK {
				t.Errorf("New: %d, error %d", page, e)
			}
		}
	}
}

// Memory

// spoil writes over a list and over its spare room.
func spoil(b []byte) {
	room := b[:cap(b)]
	for i := range room {
		room[i] ^= 0xA5
	}
}

// Data stays as it is, its spare room too, whether it is refused or not.
func TestDataStaysAsItIs(t *testing.T) {
	_, lost, _ := base(t)
	lost.Limit(1)
	lost.Barrier()
	full := opened(t, disk(t, 4))
	fill(t, full, 2)
	for _, length := range []int{0, 1, 100, 504, 505, 506, 2000} {
		for _, spare := range []int{0, 1, 8, 600} {
			room := mixed(length+spare, 9)
			before := slices.Clone(room)
			for _, p := range []*pager.Pager{opened(t, disk(t, 4)), lost, full, nil} {
				p.New(room[:length])
				p.New(room[:length])
				p.Flip(0)
			}
			if !bytes.Equal(room, before) {
				t.Errorf("%d bytes with %d to spare became %s", length, spare, brief(room))
			}
		}
	}
}

// Data is the caller's again: whatever is made of it behind the call, the page has what it was.
func TestDataIsNotKept(t *testing.T) {
	for _, length := range []int{1, 8, 505} {
		for _, spare := range []int{0, 8, 600} {
			d := disk(t, 6)
			p := opened(t, d)
			b := mixed(length+spare, 3)[:length]
			want := string(b)
			page, e := p.New(b)
			give(t, "New", e, api.OK)
			spoil(b)
			giveRead(t, p, page, want)
			other, _ := p.New(b)
			spoil(b)
			give(t, "Flip", p.Flip(page), api.OK)
			spoil(b)
			d.Crash(0)
			giveRead(t, opened(t, d), page, want)
			if got, _ := p.Read(other); string(got) == want || len(got) != length {
				t.Errorf("one list in two pages: %s and %s", brief([]byte(want)), brief(got))
			}
		}
	}
}

// What is answered is seen neither in the disk nor in another answer.
func TestAnswersAreNewMemory(t *testing.T) {
	for _, data := range []string{"x", "some data", string(mixed(505, 1))} {
		d, p, _ := base(t)
		pages := madeAll(t, p, data, data)
		give(t, "Flip", p.Flip(pages[0]), api.OK)
		for range 3 {
			one, _ := p.Read(pages[0])
			two, _ := p.Read(pages[0])
			three, _ := p.Read(pages[1])
			spoil(one)
			if string(two) != data || string(three) != data {
				t.Errorf("%s: answers have memory in common", brief([]byte(data)))
			}
			_ = append(two, "more"...)
			giveRead(t, p, pages[0], data)
			giveRead(t, p, pages[1], data)
			giveRead(t, opened(t, d), pages[0], data)
		}
	}
}

// An answer stays what it was, whatever is done then.
func TestAnswersStayAsTheyAre(t *testing.T) {
	d, p, page := base(t)
	b, _ := p.Read(page)
	give(t, "Free", p.Free(page), api.OK)
	give(t, "Flip", p.Flip(0), api.OK)
	fill(t, p, 6)
	d.Crash(5)
	if string(b) != "root" {
		t.Errorf("an answer became %s", brief(b))
	}
}

// The lists of pages are neither changed nor kept.
func TestListsOfPages(t *testing.T) {
	p := opened(t, disk(t, 8))
	room := []int{5, 2, 5, 3, 7, 6, 4}
	before := slices.Clone(room)
	for _, n := range []int{0, 1, 3, 4} {
		give(t, "Use", p.Use(room[:n]...), api.OK)
		give(t, "Free", p.Free(room[:n]...), api.OK)
		give(t, "Use", p.Use(room[:n]...), api.OK)
		p.Use(append(room[:n:n], 1)...)
		p.Free(append(room[:n:n], 1)...)
		give(t, "Flip", p.Flip(0), api.OK)
		if !slices.Equal(room, before) {
			t.Errorf("%d pages of %v became %v", n, before, room)
		}
	}
	list := []int{2, 3, 5}
	give(t, "Free", p.Free(list...), api.OK)
	list[0], list[1], list[2] = 4, 6, 7
	giveRoom(t, p, 3)
	give(t, "Flip", p.Flip(0), api.OK)
	giveRoom(t, p, 6)
}

// What is done to a copy of the disk is not done to the disk, and the other way round.
func TestCopiesOfTheDisk(t *testing.T) {
	d, p, page := base(t)
	q := opened(t, d.Copy())
	give(t, "Use", q.Use(page), api.OK)
	other := made(t, q, "other")
	give(t, "Flip", q.Flip(other), api.OK)
	giveRoot(t, p, 1, page)
	giveRoot(t, opened(t, d), 1, page)
	giveRoom(t, p, 4)
	give(t, "Flip", p.Flip(0), api.OK)
	giveRoot(t, q, 2, other)
	giveRead(t, q, other, "other")
}

// The same calls have the same answers, whatever is done to other disks in between.
func TestNothingIsKept(t *testing.T) {
	story := func(between func()) string {
		d := disk(t, 12)
		p := opened(t, d)
		f := &from{mixed(4000, 7)}
		tale := ""
		for range 300 {
			between()
			page, e := p.New([]byte{byte(f.below(256))})
			tale += fmt.Sprint(page, e)
			list := []int{f.below(13), f.below(13)}
			tale += fmt.Sprint(p.Free(list...), p.Use(list[1:]...), p.Flip(list[0]), p.Room())
			seq, root := p.Root()
			b, e := p.Read(list[1])
			tale += fmt.Sprint(seq, root, b, e)
			if f.below(20) == 0 {
				d.Crash(uint64(f.below(256)))
				p = opened(t, d)
			}
		}
		return tale
	}
	other := opened(t, disk(t, 12))
	want := story(func() {})
	for range 3 {
		got := story(func() {
			other.New([]byte("other"))
			other.Use(3)
			other.Free(2, 4)
			other.Flip(3)
		})
		if got != want {
			t.Fatal("the same calls have other answers")
		}
	}
}

// Pagers that several use at one time, each its own, have nothing in common.
func TestPagersAtOneTime(t *testing.T) {
	var group sync.WaitGroup
	for worker := range 8 {
		w := twins(t, 7)
		group.Go(func() {
			f := &from{mixed(20000, uint64(200+worker))}
			for range 200 {
				w.do(t, f.chance(7, 10))
				w.tale = nil
			}
		})
	}
	group.Wait()
}

// Numbers at their ends, in lists of all kinds.
func TestNumbersAtTheirEnds(t *testing.T) {
	d, p, page := base(t)
	for _, one := range nones(8) {
		for _, two := range nones(8) {
			give(t, "Use", p.Use(one, two), api.ErrArg)
			give(t, "Free", p.Free(page, one, page, two), api.ErrArg)
		}
	}
	giveRoot(t, p, 1, page)
	giveRoom(t, p, 4)
	d.Limit(math.MaxInt)
	give(t, "Flip", p.Flip(page), api.OK)
}
