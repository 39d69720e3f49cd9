package pager_test

import (
	"bytes"
	"fmt"
	"slices"
	"testing"

	"merestone/api"
	"merestone/sector"
)

// The chapter's example.
func TestExample(t *testing.T) {
	d := disk(t, 4)
	p := opened(t, d)
	first := made(t, p, "first")
	give(t, "Flip", p.Flip(first), api.OK)
	made(t, p, "second")
	d.Crash(0)
	p = opened(t, d)
	giveRoot(t, p, 1, first)
	giveRead(t, p, first, "first")
}

func TestOpenOfTooFewSectors(t *testing.T) {
	refuseOpen(t, nil, api.ErrArg)
	refuseOpen(t, &sector.Disk{}, api.ErrArg)
	for n := 1; n <= 3; n++ {
		d := disk(t, n)
		refuseOpen(t, d, api.ErrArg)
		d.Limit(1)
		d.Barrier()
		refuseOpen(t, d, api.ErrArg)
		d.Crash(0)
		refuseOpen(t, d, api.ErrArg)
	}
}

func TestOpenOfNewDisks(t *testing.T) {
	for _, n := range []int{4, 5, 6, 100, most - 1, most} {
		p := opened(t, disk(t, n))
		giveRoot(t, p, 0, 0)
		giveRoom(t, p, n-2)
		for _, page := range []int{-1, 0, 1, n, n + 1} {
			refuseRead(t, p, page, api.ErrArg)
		}
		for _, page := range []int{2, 3, n / 2, n - 1} {
			refuseRead(t, p, page, api.ErrSum)
		}
		if p.Len() != n {
			t.Errorf("Len of a disk of %d: %d", n, p.Len())
		}
	}
}

func TestOpenWithoutPower(t *testing.T) {
	d := disk(t, 4)
	for range 3 {
		d.Limit(1)
		d.Barrier()
		refuseOpen(t, d, api.ErrDown)
		refuseOpen(t, d, api.ErrDown)
		d.Crash(0)
		giveRoot(t, opened(t, d), 0, 0)
	}
	p := opened(t, d)
	root := made(t, p, "root")
	give(t, "Flip", p.Flip(root), api.OK)
	d.Limit(1)
	refuseNew(t, p, "more", api.ErrDown)
	refuseOpen(t, d, api.ErrDown)
	d.Crash(0)
	giveRoot(t, opened(t, d), 1, root)
}

// image is all that a disk has.
func image(t *testing.T, d *sector.Disk) [][]byte {
	t.Helper()
	var list [][]byte
	for at := range d.Len() {
		b, e := d.Read(at)
		if e != api.OK {
			t.Fatalf("sector %d: error %d", at, e)
		}
		list = append(list, b)
	}
	return list
}

func sameImage(a, b [][]byte) bool {
	return slices.EqualFunc(a, b, bytes.Equal)
}

// Opening writes nothing and makes nothing sure.
func TestOpenWritesNothing(t *testing.T) {
	d := disk(t, 8)
	for n := range 5 {
		before := image(t, d)
		d.Limit(1)
		p := opened(t, d)
		opened(t, d)
		if d.Down() || len(d.Unsure()) != 0 || !sameImage(image(t, d), before) {
			t.Fatalf("behind %d flips Open did something with the disk", n)
		}
		d.Limit(0)
		give(t, "Flip", p.Flip(made(t, p, "a root")), api.OK)
	}
	p := opened(t, d)
	made(t, p, "unsure")
	unsure := len(d.Unsure())
	opened(t, d)
	if len(d.Unsure()) != unsure {
		t.Errorf("behind Open %d writes are unsure, not %d", len(d.Unsure()), unsure)
	}
}

// written answers a disk with those sectors from 0 on.
func written(t *testing.T, sectors int, list ...[]byte) *sector.Disk {
	t.Helper()
	d := disk(t, sectors)
	for at, b := range list {
		if e := d.Write(at, b); e != api.OK {
			t.Fatalf("Write(%d): error %d", at, e)
		}
	}
	d.Barrier()
	return d
}

// rootSectors are the sectors 0 and 1 of a disk of so many sectors that was flipped so often, each time to the last page.
func rootSectors(t *testing.T, sectors, flips int) [][]byte {
	t.Helper()
	d := disk(t, sectors)
	p := opened(t, d)
	give(t, "Use", p.Use(sectors-1), api.OK)
	for range flips {
		give(t, "Flip", p.Flip(sectors-1), api.OK)
	}
	return image(t, d)[:2]
}

// rootSector is the sector that the first Flip of a disk of so many sectors wrote, which was one to that page.
func rootSector(t *testing.T, sectors, root int) []byte {
	t.Helper()
	d := disk(t, sectors)
	p := opened(t, d)
	give(t, "Use", p.Use(root), api.OK)
	give(t, "Flip", p.Flip(root), api.OK)
	list := image(t, d)
	if bytes.Equal(list[1], filled(0)) {
		return list[0]
	}
	return list[1]
}

// others are sectors that no Flip of a disk of eight sectors wrote.
func others(t *testing.T) map[string][]byte {
	t.Helper()
	all := map[string][]byte{
		"noughts": make([]byte, size),
		"ones":    bytes.Repeat([]byte{0xFF}, size),
		"a text":  []byte(fmt.Sprintf("%-512s", "no root")),
		// A sector without a root, whose sum is right.
		"no kind":  righted(make([]byte, size)),
		"too long": righted(append([]byte{0, 0, 0, 0, 1, 2, 0}, make([]byte, 505)...)),
	}
	for seed := range uint64(8) {
		all[fmt.Sprintf("noise %d", seed)] = mixed(size, seed)
		all[fmt.Sprintf("noise %d with a sum", seed)] = righted(mixed(size, seed))
	}
	for length := range 40 {
		for kind := range byte(5) {
			all[fmt.Sprintf("kind %d, %d bytes", kind, length)] = sealed(kind, string(mixed(length, 100+uint64(length))))
			all[fmt.Sprintf("kind %d, %d noughts", kind, length)] = sealed(kind, string(make([]byte, length)))
		}
	}
	all["a long page"] = sealed(2, string(mixed(mostData, 1)))
	all["a page that tells a root"] = asPage(rootSector(t, 8, 7))
	longer, shorter := rootSector(t, 8, 7), rootSector(t, 8, 7)
	longer[6]++
	shorter[6]--
	all["a root with a byte behind it"] = righted(longer)
	all["a root without its last byte"] = righted(shorter)
	for _, root := range []byte{1, 8, 9, 255} {
		all[fmt.Sprint("a root that is no page: ", root)] = rootTold(t, root)
	}
	all["a root on a larger disk"] = rootSector(t, 9, 8)
	all["a root on the largest disk"] = rootSector(t, most, most-1)
	for bit := 0; bit < 8*size; bit += 7 {
		b := rootSector(t, 8, 7)
		b[bit/8] ^= 1 << (bit % 8)
		all[fmt.Sprintf("a root with bit %d turned", bit)] = b
	}
	return all
}

// rootTold is a root's sector of a disk of eight sectors as it would be if that byte were the root: where the sectors of two roots are not the same, there the root is told.
func rootTold(t *testing.T, root byte) []byte {
	t.Helper()
	b, other := rootSector(t, 8, 2), rootSector(t, 8, 3)
	places := 0
	for at := 4; at < size; at++ {
		if b[at] == 2 && other[at] == 3 {
			places++
			b[at] = root
		}
	}
	if places != 1 {
		t.Fatalf("the root is told at %d places", places)
	}
	return righted(b)
}

// asPage makes a page of a sector, whatever it is: its kind is another then, and its sum right.
func asPage(b []byte) []byte {
	b[4] = 2
	return righted(b)
}

// Where no root is, none was flipped; and there can be one.
func TestOpenOfAnythingElse(t *testing.T) {
	for name, b := range others(t) {
		for _, list := range [][][]byte{{b, b}, {b}, {make([]byte, size), b}} {
			d := written(t, 8, list...)
			p := opened(t, d)
			if seq, root := p.Root(); seq != 0 || root != 0 || p.Room() != 6 {
				t.Fatalf("%s: Root %d, %d, Room %d", name, seq, root, p.Room())
			}
			for seq := 1; seq <= 3; seq++ {
				root := made(t, p, fmt.Sprint("root", seq))
				give(t, "Flip", p.Flip(root), api.OK)
				d.Crash(0)
				p = opened(t, d)
				giveRoot(t, p, seq, root)
				giveRead(t, p, root, fmt.Sprint("root", seq))
			}
		}
	}
}

// A root's sector in the place of a page is no root, whatever number it has.
func TestOpenLooksAtNoPage(t *testing.T) {
	var list [][]byte
	for range 3 {
		list = append(list, rootSectors(t, 8, 5)...)
	}
	p := opened(t, written(t, 8, append([][]byte{filled(0), filled(0)}, list...)...))
	giveRoot(t, p, 0, 0)
	p = opened(t, written(t, 8, append(rootSectors(t, 8, 2), list...)...))
	giveRoot(t, p, 2, 7)
	for page := 2; page < 8; page++ {
		refuseRead(t, p, page, api.ErrText)
	}
}

// Whatever the sector is that no Flip was to write yet, the root is the one that was flipped.
func TestOpenBesideAnythingElse(t *testing.T) {
	for name, b := range others(t) {
		for n := range 2 {
			list := [][]byte{b, b}
			d := written(t, 8, list...)
			p := opened(t, d)
			root := made(t, p, "root")
			give(t, "Flip", p.Flip(root), api.OK)
			if n == 1 {
				p = opened(t, d)
			}
			give(t, "Use", p.Use(root), api.OK)
			d.Limit(2 + n)
			give(t, "Flip that is cut off", p.Flip(root), api.ErrDown)
			d.Crash(0)
			if seq, at := opened(t, d).Root(); seq != 1 || at != root {
				t.Fatalf("%s: Root %d, %d", name, seq, at)
			}
		}
	}
}

// Behind each of many Flips all is free when the disk is opened again, and the root is the last one.
func TestOpenBehindFlips(t *testing.T) {
	for _, n := range []int{4, 5, 8, 300} {
		d := disk(t, n)
		p := opened(t, d)
		for seq := 1; seq <= 40; seq++ {
			root := 0
			if seq%5 != 0 {
				root = 2 + seq%(n-2)
				give(t, "Use", p.Use(root), api.OK)
			}
			give(t, "Flip", p.Flip(root), api.OK)
			giveRoot(t, p, seq, root)
			other := opened(t, d)
			giveRoot(t, other, seq, root)
			giveRoom(t, other, n-2)
			if seq%3 == 0 {
				d.Crash(uint64(seq))
				p = opened(t, d)
				giveRoot(t, p, seq, root)
				giveRoom(t, p, n-2)
			}
		}
	}
}

// The number of flips goes on above a byte, and two.
func TestManyFlips(t *testing.T) {
	d := disk(t, 4)
	p := opened(t, d)
	give(t, "Use", p.Use(2, 3), api.OK)
	for seq := 1; seq <= 66000; seq++ {
		if e := p.Flip(2 + seq%2); e != api.OK {
			t.Fatalf("flip %d: error %d", seq, e)
		}
		if seq < 600 || seq > 65400 {
			giveRoot(t, opened(t, d), seq, 2+seq%2)
		}
	}
}

// A root at the end of the largest disk is told whole.
func TestRootsOfTheLargestDisk(t *testing.T) {
	d := disk(t, most)
	p := opened(t, d)
	for seq, root := range []int{2, 255, 256, 257, 65535, 65280, 32768, 0, 65534} {
		if root != 0 {
			give(t, "Use", p.Use(root), api.OK)
		}
		give(t, "Flip", p.Flip(root), api.OK)
		p = opened(t, d)
		giveRoot(t, p, seq+1, root)
	}
}

// Two Pagers of one disk, one behind the other: what the first took is free to the second.
func TestOpenAgainWithoutACrash(t *testing.T) {
	d := disk(t, 5)
	p := opened(t, d)
	pages := madeAll(t, p, "a", "b")
	give(t, "Flip", p.Flip(pages[0]), api.OK)
	made(t, p, "c")
	giveRoom(t, p, 0)
	other := opened(t, d)
	giveRoom(t, other, 3)
	giveRoot(t, other, 1, pages[0])
	giveRead(t, other, pages[0], "a")
	giveRead(t, other, pages[1], "b")
	give(t, "Use", other.Use(pages...), api.OK)
	made(t, other, "d")
	refuseNew(t, other, "e", api.ErrFull)
	give(t, "Flip", other.Flip(pages[1]), api.OK)
	giveRoot(t, opened(t, d), 2, pages[1])
}
