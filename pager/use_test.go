package pager_test

import (
	"fmt"
	"math"
	"slices"
	"testing"

	"merestone/api"
	"merestone/pager"
)

// What a page is, as it can be seen.
const (
	isFree  = "free"
	isInUse = "in use"
	isFreed = "Freed"
)

// one answers a Pager of which the last page alone is free, done what the letters tell: n New, u Use, f Free, | a Flip of no root. A letter n at a page that is not free is refused.
func one(t *testing.T, letters string) (*pager.Pager, int) {
	t.Helper()
	const page = 3
	p := opened(t, disk(t, 4))
	give(t, "Use", p.Use(2), api.OK)
	for i, c := range letters {
		var e api.Errno
		switch c {
		case 'n':
			_, e = p.New([]byte("data"))
		case 'u':
			e = p.Use(page)
		case 'f':
			e = p.Free(page)
		case '|':
			e = p.Flip(0)
		}
		if e != api.OK && (c != 'n' || e != api.ErrFull) {
			t.Fatalf("%s: error %d", letters[:i+1], e)
		}
	}
	return p, page
}

// seen tells what the page is by Room, by New, by Flip of it, and by Room behind a Flip; each is asked of a Pager of its own.
func seen(t *testing.T, letters string) string {
	t.Helper()
	p, page := one(t, letters)
	room := p.Room()
	_, takes := p.New([]byte("more"))
	p, _ = one(t, letters)
	root := p.Flip(page)
	p, _ = one(t, letters+"|")
	behind := p.Room()
	switch {
	case room == 1 && takes == api.OK && root == api.ErrArg && behind == 1:
		return isFree
	case room == 0 && takes == api.ErrFull && root == api.OK && behind == 0:
		return isInUse
	case room == 0 && takes == api.ErrFull && root == api.ErrArg && behind == 1:
		return isFreed
	}
	return fmt.Sprintf("neither: Room %d, New %d, Flip %d, behind it %d", room, takes, root, behind)
}

// The chapter's words, written out.
func TestWhatAPageIs(t *testing.T) {
	for want, list := range map[string][]string{
		isFree: {
			"", "|", "f", "ff", "f|", // behind Open
			"nf", "nff", "nuf", "nuuf", "nfuf", "nfnf", "nfunf", "fnf", "fnff", // at once
			"uf|", "n|f|", "nu|f|", "u|f|", "nfu|f|", "nf|uf|", "fuf|", // behind a Flip
			"nf|", "nf|f", "uf|f", "uf||", "n|f||", "uf|nf", "n|f|nf",
		},
		isInUse: {
			"n", "u", "nu", "un", "uu", "fn", "fu", "nfn", "nfu", "nffu", "nufu",
			"n|", "u|", "nu|", "n||", "nfu|", "nfn|", "fn|", "fu|",
			"ufu", "uffu", "ufu|", "n|fu", "n|fu|", "u|fu||", "n|ffuu",
			"uf|n", "uf|u", "n|f|n", "n|f|u", "nf|n", "nf|u", "uf|n|",
		},
		isFreed: {
			"uf", "uff", "fuf", "uuf", "ufuf", "ufn", "fuff",
			"n|f", "n|ff", "u|f", "nu|f", "n|uf", "n|fuf", "n|fn", "nfu|f", "nfn|f",
			"nf|uf", "uf|uf", "n|f|uf", "uf|n|f", "n||f", "u||f",
		},
	} {
		for _, letters := range list {
			if got := seen(t, letters); got != want {
				t.Errorf("behind %q the page is %s, not %s", letters, got, want)
			}
		}
	}
}

// told tells the same by the words alone: by whether the page is in use, was Freed, was taken by New since the last Flip.
func told(letters string) string {
	var inUse, wasFreed, isNew bool
	for _, c := range letters {
		switch c {
		case 'n':
			isNew = isNew || !inUse
			inUse = true
		case 'u':
			inUse, wasFreed = true, false
		case 'f':
			wasFreed = inUse && !isNew
			inUse = inUse && !isNew
		case '|':
			inUse = inUse && !wasFreed
			wasFreed, isNew = false, false
		}
	}
	switch {
	case wasFreed:
		return isFreed
	case inUse:
		return isInUse
	}
	return isFree
}

// All ways of up to seven letters.
func TestAllThatAPageCanBe(t *testing.T) {
	var on func(letters string)
	on = func(letters string) {
		if got, want := seen(t, letters), told(letters); got != want {
			t.Errorf("behind %q the page is %s, not %s", letters, got, want)
		}
		for _, c := range "nuf|" {
			if len(letters) < 7 && !t.Failed() {
				on(letters + string(c))
			}
		}
	}
	on("")
}

// lists are lists of pages of a disk of ten sectors.
func lists() [][]int {
	return [][]int{nil, {}, {2}, {9}, {2, 3}, {3, 2}, {2, 2}, {9, 9, 9}, {2, 3, 2, 3}, {9, 8, 7, 6, 5, 4, 3, 2}, {2, 3, 4, 5, 6, 7, 8, 9, 2, 3}}
}

// distinct is how many pages a list has.
func distinct(list []int) int {
	list = slices.Clone(list)
	slices.Sort(list)
	return len(slices.Compact(list))
}

func TestUseAndFreeOfLists(t *testing.T) {
	for _, list := range lists() {
		n := distinct(list)
		d := disk(t, 10)
		p := opened(t, d)
		for range 2 {
			give(t, "Use", p.Use(list...), api.OK)
			giveRoom(t, p, 8-n)
		}
		for range 2 {
			give(t, "Free", p.Free(list...), api.OK)
			giveRoom(t, p, 8-n)
		}
		give(t, "Use", p.Use(list...), api.OK)
		give(t, "Flip", p.Flip(0), api.OK)
		giveRoom(t, p, 8-n)
		give(t, "Free", p.Free(list...), api.OK)
		giveRoom(t, p, 8-n)
		give(t, "Flip", p.Flip(0), api.OK)
		giveRoom(t, p, 8)
		give(t, "Free", p.Free(list...), api.OK)
		give(t, "Flip", p.Flip(0), api.OK)
		fill(t, p, 8)
		give(t, "Free", p.Free(list...), api.OK)
		giveRoom(t, p, n)
		give(t, "Use", p.Use(list...), api.OK)
		giveRoom(t, p, 0)
		give(t, "Free", p.Free(list...), api.OK)
		fill(t, p, n)
	}
}

// In one call, pages that are in each state.
func TestFreeOfUnlikePages(t *testing.T) {
	d := disk(t, 10)
	p := opened(t, d)
	old := madeAll(t, p, "a", "b")
	give(t, "Flip", p.Flip(old[0]), api.OK)
	fresh := madeAll(t, p, "c", "d")
	give(t, "Free", p.Free(old[1]), api.OK)
	giveRoom(t, p, 4)
	var all []int
	for page := 2; page < 10; page++ {
		all = append(all, page)
	}
	give(t, "Free", p.Free(all...), api.OK)
	giveRoom(t, p, 6)
	give(t, "Free", p.Free(append(old, fresh...)...), api.OK)
	giveRoom(t, p, 6)
	give(t, "Flip of one that was Freed", p.Flip(old[0]), api.ErrArg)
	give(t, "Flip", p.Flip(0), api.OK)
	giveRoom(t, p, 8)
	fill(t, p, 8)
}

// One that is no page, at each place among others: nothing is changed.
func TestUseAndFreeOfNoPage(t *testing.T) {
	for _, none := range nones(6) {
		for at := range 4 {
			list := slices.Insert([]int{2, 3, 4}, at, none)
			p := opened(t, disk(t, 6))
			give(t, "Use", p.Use(list...), api.ErrArg)
			giveRoom(t, p, 4)
			give(t, "Use", p.Use(none), api.ErrArg)
			give(t, "Free", p.Free(none), api.ErrArg)
			pages := fill(t, p, 4)
			give(t, "Free", p.Free(list...), api.ErrArg)
			giveRoom(t, p, 0)
			give(t, "Flip", p.Flip(pages[0]), api.OK)
			give(t, "Free", p.Free(list...), api.ErrArg)
			for _, page := range pages {
				give(t, "Flip", p.Flip(page), api.OK)
			}
			giveRoom(t, p, 0)
			give(t, "Free", p.Free(2, 3, 4), api.OK)
			give(t, "Use", p.Use(list...), api.ErrArg)
			give(t, "Flip", p.Flip(0), api.OK)
			giveRoom(t, p, 3)
		}
	}
}

// Use and Free write nothing.
func TestUseAndFreeDoNothingToTheDisk(t *testing.T) {
	d := disk(t, 8)
	p := opened(t, d)
	pages := madeAll(t, p, "a", "b", "c")
	give(t, "Flip", p.Flip(pages[0]), api.OK)
	pages = append(pages, made(t, p, "d"))
	before, unsure := image(t, d), len(d.Unsure())
	d.Limit(1)
	for range 3 {
		give(t, "Free", p.Free(pages...), api.OK)
		give(t, "Use", p.Use(pages...), api.OK)
		give(t, "Use", p.Use(), api.OK)
		give(t, "Free", p.Free(), api.OK)
		give(t, "Use", p.Use(1), api.ErrArg)
		give(t, "Free", p.Free(2, math.MaxInt), api.ErrArg)
	}
	if d.Down() || !sameImage(image(t, d), before) || len(d.Unsure()) != unsure {
		t.Errorf("Use or Free did something with the disk")
	}
	for i, data := range []string{"a", "b", "c", "d"} {
		giveRead(t, p, pages[i], data)
	}
}

// Where a page is no page and the power is gone, that is told first.
func TestUseAndFreeWhichError(t *testing.T) {
	d := disk(t, 4)
	p := opened(t, d)
	d.Limit(1)
	d.Barrier()
	for _, list := range [][]int{nil, {2}, {1}, {4}, {2, 4}} {
		give(t, "Use", p.Use(list...), api.ErrDown)
		give(t, "Free", p.Free(list...), api.ErrDown)
	}
	d.Crash(0)
	give(t, "Use", p.Use(4), api.ErrDown)
	give(t, "Free", p.Free(4), api.ErrDown)
}
