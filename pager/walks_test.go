package pager_test

import (
	"fmt"
	"math"
	"slices"
	"testing"

	"merestone/api"
	"merestone/pager"
	"merestone/sector"
)

// calls are some of all kinds, of a disk of five sectors.
func calls() []deed {
	return []deed{
		take("a"), take("b"), use(2), use(3, 4), release(2), release(3), release(2, 4),
		flip(0), flip(2), flip(3), again(), crashed(0), crashed(math.MaxUint64), limit(1), limit(2), limit(3),
	}
}

// All ways of a few calls, one after the other, done from the beginning and held against the judge behind each.
func TestAllWaysOfFewCalls(t *testing.T) {
	list := calls()
	var on func(t *testing.T, way []deed)
	on = func(t *testing.T, way []deed) {
		if len(way) == 4 {
			w := twins(t, 5)
			w.do(t, way...)
			return
		}
		for _, x := range list {
			if !t.Failed() {
				on(t, append(slices.Clone(way), x))
			}
		}
	}
	for _, x := range list {
		t.Run(x.name, func(t *testing.T) {
			t.Parallel()
			on(t, []deed{x})
		})
	}
}

// from is a source of numbers in no order, the same ones for the same seed.
type from struct {
	bytes []byte
}

func (f *from) below(n int) int {
	v := int(f.bytes[0])<<8 | int(f.bytes[1])
	f.bytes = f.bytes[2:]
	return v % n
}

// chance answers a call of a disk of n sectors; seldom is how seldom a crash or a limit comes.
func (f *from) chance(n, seldom int) deed {
	switch f.below(seldom) {
	case 0:
		return crashed(uint64(f.below(1<<16)) * 0x0001000300070011)
	case 1:
		return limit(f.below(12))
	case 2, 3:
		return flip(f.page(n))
	case 4:
		return use(f.pages(n)...)
	case 5, 6:
		return release(f.pages(n)...)
	}
	if f.below(4) == 0 {
		return release(f.page(n))
	}
	return take(string(mixed(f.below(510), uint64(f.below(1<<16)))))
}

// page answers a number that is mostly a page.
func (f *from) page(n int) int {
	if f.below(3) == 0 {
		return f.below(4) - 1
	}
	return f.below(n+1) + 1
}

func (f *from) pages(n int) []int {
	var list []int
	for range f.below(4) {
		list = append(list, 2+f.below(n-2))
	}
	if f.below(12) == 0 {
		list = append(list, f.page(n))
	}
	return list
}

func TestManyCallsInNoOrder(t *testing.T) {
	for seed, c := range []struct{ sectors, seldom, calls int }{
		{4, 9, 800}, {5, 9, 800}, {6, 12, 800}, {8, 12, 1500}, {8, 30, 1500}, {12, 20, 1200}, {30, 30, 1000}, {30, 100, 800}, {300, 40, 600}, {most, 40, 400},
	} {
		t.Run(fmt.Sprint(c.sectors, " sectors, ", seed), func(t *testing.T) {
			t.Parallel()
			f := &from{mixed(60000, uint64(seed))}
			w := twins(t, c.sectors)
			for range c.calls {
				w.do(t, f.chance(c.sectors, c.seldom))
				if w.judge.lost && f.below(3) == 0 {
					w.do(t, crashed(uint64(f.below(1<<16))))
				}
				if t.Failed() {
					return
				}
				if len(w.tale) > 30 {
					w.tale = w.tale[1:]
				}
			}
		})
	}
}

// A user as there will be: a root that names pages, of which a new one is made for each change

// user keeps a list of texts on a disk: a page each, and a root that has the numbers of their pages.
type user struct {
	disk  *sector.Disk
	pager *pager.Pager
	root  int
	pages []int
	texts []string
}

// read reads the list that the disk has, and tells the Pager of its pages.
func (u *user) read(t *testing.T) {
	t.Helper()
	u.pager = opened(t, u.disk)
	u.pages, u.texts = nil, nil
	_, u.root = u.pager.Root()
	if u.root == 0 {
		return
	}
	b, e := u.pager.Read(u.root)
	give(t, "Read of the root", e, api.OK)
	for i := 0; i < len(b); i += 2 {
		page := int(b[i])<<8 | int(b[i+1])
		text, e := u.pager.Read(page)
		give(t, "Read of a page", e, api.OK)
		u.pages, u.texts = append(u.pages, page), append(u.texts, string(text))
	}
	give(t, "Use", u.pager.Use(append(u.pages, u.root)...), api.OK)
}

// write puts a text behind the others, or in the place of one, and flips.
func (u *user) write(at int, text string) api.Errno {
	page, e := u.pager.New([]byte(text))
	if e != api.OK {
		return e
	}
	pages, gone := slices.Clone(u.pages), []int{u.root}
	if at < len(pages) {
		gone = append(gone, pages[at])
		pages[at] = page
	} else {
		pages = append(pages, page)
	}
	var data []byte
	for _, x := range pages {
		data = append(data, byte(x>>8), byte(x))
	}
	root, e := u.pager.New(data)
	if e != api.OK {
		return e
	}
	if u.root == 0 {
		gone = gone[1:]
	}
	if e := u.pager.Free(gone...); e != api.OK {
		return e
	}
	if e := u.pager.Flip(root); e != api.OK {
		return e
	}
	u.root, u.pages = root, pages
	return api.OK
}

// The power goes at any place, again and again: the list is what it was, or has the change, and no page is lost for ever.
func TestAListThatIsChangedAndCutOff(t *testing.T) {
	for seed := range uint64(20) {
		f := &from{mixed(20000, 500+seed)}
		u := &user{disk: disk(t, 24)}
		u.read(t)
		for i := range 150 {
			at, text := f.below(9), fmt.Sprint("text ", i)
			want := slices.Clone(u.texts)
			if at < len(want) {
				want[at] = text
			} else {
				want = append(want, text)
			}
			u.disk.Limit(f.below(12))
			e := u.write(at, text)
			if e == api.OK && f.below(3) > 0 {
				u.texts = want
				continue
			}
			before := u.texts
			u.disk.Crash(uint64(f.below(1 << 16)))
			u.read(t)
			if !slices.Equal(u.texts, want) && (e == api.OK || !slices.Equal(u.texts, before)) {
				t.Fatalf("error %d: %q became %q, not %q", e, before, u.texts, want)
			}
			used := len(u.pages)
			if u.root != 0 {
				used++
			}
			giveRoom(t, u.pager, 22-used)
		}
	}
}
