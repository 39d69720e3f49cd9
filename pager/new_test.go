package pager_test

import (
	"fmt"
	"strings"
	"testing"

	"merestone/api"
	"merestone/pager"
)

// fill takes all pages that are free, asks that each is taken once and that there are so many, and answers them.
func fill(t *testing.T, p *pager.Pager, many int) []int {
	t.Helper()
	var pages []int
	taken := map[int]bool{}
	for left := many; left > 0; left-- {
		giveRoom(t, p, left)
		page := made(t, p, fmt.Sprint("page ", left))
		if page < 2 || page >= p.Len() || taken[page] {
			t.Fatalf("New: page %d of %d sectors, with %d left", page, p.Len(), left)
		}
		taken[page] = true
		pages = append(pages, page)
	}
	giveRoom(t, p, 0)
	for range 3 {
		refuseNew(t, p, "one more", api.ErrFull)
		refuseNew(t, p, "", api.ErrFull)
	}
	giveRoom(t, p, 0)
	return pages
}

func TestNewTillNoPageIsFree(t *testing.T) {
	for _, n := range []int{4, 5, 17, 1000, most} {
		d := disk(t, n)
		p := opened(t, d)
		pages := fill(t, p, n-2)
		for _, i := range []int{0, len(pages) / 2, len(pages) - 1} {
			giveRead(t, p, pages[i], fmt.Sprint("page ", n-2-i))
		}
		give(t, "Flip", p.Flip(pages[len(pages)-1]), api.OK)
		refuseNew(t, p, "", api.ErrFull)
		d.Crash(0)
		giveRead(t, p, pages[0], fmt.Sprint("page ", n-2))
		fill(t, opened(t, d), n-2)
	}
}

func TestNewOfTooMuch(t *testing.T) {
	d := disk(t, 4)
	p := opened(t, d)
	for _, length := range []int{506, 507, 511, 512, 513, 1024, 65535, 65536, 65541, 1 << 20} {
		before := image(t, d)
		refuseNew(t, p, strings.Repeat("x", length), api.ErrLarge)
		giveRoom(t, p, 2)
		if len(d.Unsure()) != 0 || !sameImage(image(t, d), before) {
			t.Errorf("%d bytes were refused, and something was written", length)
		}
	}
	for _, data := range []string{"", strings.Repeat("x", mostData)} {
		giveRead(t, p, made(t, p, data), data)
	}
	giveRoom(t, p, 0)
}

// ErrDown is told ahead of ErrLarge, that ahead of ErrFull; of a nil Pager it is ErrArg.
func TestNewWhichError(t *testing.T) {
	large, small := strings.Repeat("x", mostData+1), "x"
	d := disk(t, 4)
	p := opened(t, d)
	refuseNew(t, p, large, api.ErrLarge)
	madeAll(t, p, "a", "b")
	refuseNew(t, p, large, api.ErrLarge)
	refuseNew(t, p, small, api.ErrFull)
	refuseNew(t, p, large, api.ErrLarge)
	d.Limit(1)
	refuseNew(t, p, large, api.ErrLarge)
	refuseNew(t, p, small, api.ErrFull)
	if d.Down() {
		t.Error("a New that was refused did something with the disk")
	}
	d.Barrier()
	refuseNew(t, p, large, api.ErrDown)
	refuseNew(t, p, small, api.ErrDown)
	d.Crash(0)
	refuseNew(t, p, large, api.ErrDown)
	refuseNew(t, p, small, api.ErrDown)
	refuseNew(t, nil, large, api.ErrArg)
	refuseNew(t, nil, small, api.ErrArg)
}

// A New at which the power goes takes no page.
func TestNewThatIsCutOff(t *testing.T) {
	d := disk(t, 6)
	p := opened(t, d)
	root := made(t, p, "root")
	give(t, "Flip", p.Flip(root), api.OK)
	other := made(t, p, "other")
	d.Limit(1)
	refuseNew(t, p, "more", api.ErrDown)
	giveRoom(t, p, 2)
	giveRoot(t, p, 1, root)
	d.Crash(0)
	giveRoom(t, p, 2)
	p = opened(t, d)
	giveRoot(t, p, 1, root)
	giveRead(t, p, root, "root")
	if b, e := p.Read(other); e == api.OK && string(b) != "other" {
		t.Errorf("Read(%d): %s", other, brief(b))
	}
}

// A page is not taken that is in use, whoever told so, nor one that is free only behind the next Flip.
func TestNewTakesWhatIsFreeAlone(t *testing.T) {
	for n := 4; n <= 9; n++ {
		for mask := range 1 << (n - 2) {
			p := opened(t, disk(t, n))
			left := n - 2
			for page := 2; page < n; page++ {
				if mask>>(page-2)&1 == 1 {
					give(t, "Use", p.Use(page), api.OK)
					left--
				}
			}
			for _, page := range fill(t, p, left) {
				if mask>>(page-2)&1 == 1 {
					t.Fatalf("New took page %d, which is in use", page)
				}
			}
		}
	}
}

// What is free again can be had again, and nothing else.
func TestNewOfWhatWasFreed(t *testing.T) {
	for mask := range 1 << 6 {
		p := opened(t, disk(t, 8))
		pages := fill(t, p, 6)
		if mask%2 == 0 {
			give(t, "Flip", p.Flip(0), api.OK)
		}
		var some []int
		for i, page := range pages {
			if mask>>i&1 == 1 {
				some = append(some, page)
			}
		}
		give(t, "Free", p.Free(some...), api.OK)
		if mask%2 == 0 {
			refuseNew(t, p, "", api.ErrFull)
			give(t, "Flip", p.Flip(0), api.OK)
		}
		for _, page := range fill(t, p, len(some)) {
			some = remove(t, some, page)
		}
	}
}

// remove answers the list without a page that it has.
func remove(t *testing.T, list []int, page int) []int {
	t.Helper()
	for i, x := range list {
		if x == page {
			return append(append([]int(nil), list[:i]...), list[i+1:]...)
		}
	}
	t.Fatalf("page %d is none of %v", page, list)
	return nil
}
