package pager_test

import (
	"bytes"
	"fmt"
	"math"
	"strings"
	"testing"

	"merestone/api"
)

// nones are numbers that are no page of a disk of n sectors.
func nones(n int) []int {
	return []int{0, 1, -1, -2, -n, n, n + 1, n + 2, 1 << 20, 1 << 32, 1<<32 + 2, -1 << 32, math.MaxInt, math.MaxInt - 1, math.MinInt, math.MinInt + 2}
}

func TestReadOfNoPage(t *testing.T) {
	for _, n := range []int{4, 5, 64, most} {
		d := disk(t, n)
		p := opened(t, d)
		for range 3 {
			for _, page := range nones(n) {
				refuseRead(t, p, page, api.ErrArg)
			}
			give(t, "Use", p.Use(2), api.OK)
			give(t, "Flip", p.Flip(2), api.OK)
		}
		d.Limit(1)
		refuseNew(t, p, "", api.ErrDown)
		for _, page := range nones(n) {
			refuseRead(t, p, page, api.ErrDown)
		}
	}
}

// A page that was never written is all 0, which is no sector with a sum.
func TestReadOfWhatWasNeverWritten(t *testing.T) {
	p := opened(t, disk(t, 8))
	for range 2 {
		for page := 2; page < 8; page++ {
			refuseRead(t, p, page, api.ErrSum)
		}
		give(t, "Use", p.Use(2, 3, 7), api.OK)
	}
	give(t, "Flip", p.Flip(7), api.OK)
	refuseRead(t, p, 7, api.ErrSum)
}

// What is in the page's sector, as chapter 13 lays it out, is its data; and what New laid down is there so.
func TestPagesAreSectorsOfKindTwo(t *testing.T) {
	for _, length := range []int{0, 1, 2, 3, 7, 11, 100, 255, 256, 257, 503, 504, 505} {
		data := string(mixed(length, uint64(length)))
		d := written(t, 5, filled(0), filled(0), sealed(2, data))
		p := opened(t, d)
		giveRead(t, p, 2, data)
		give(t, "Use", p.Use(2), api.OK)
		giveRead(t, p, 2, data)
		page := made(t, p, data)
		if b, e := d.Read(page); !bytes.Equal(b, sealed(2, data)) || e != api.OK {
			t.Errorf("%d bytes lie as %s, error %d", length, brief(b), e)
		}
	}
}

// filled is a sector full of one byte.
func filled(c byte) []byte {
	return bytes.Repeat([]byte{c}, size)
}

func TestReadOfAnotherKind(t *testing.T) {
	for kind := range 256 {
		p := opened(t, written(t, 4, filled(0), filled(0), sealed(byte(kind), "data"), sealed(byte(kind), "")))
		for page, want := range []string{2: "data", 3: ""} {
			switch {
			case page < 2:
			case kind == 2:
				giveRead(t, p, page, want)
			default:
				refuseRead(t, p, page, api.ErrText)
			}
		}
	}
}

// A sector of the right kind that no Seal made.
func TestReadOfWhatIsNotSealed(t *testing.T) {
	for _, length := range []int{506, 507, 512, 1000, 65535} {
		b := sealed(2, "")
		b[5], b[6] = byte(length>>8), byte(length)
		refuseRead(t, opened(t, written(t, 4, filled(0), filled(0), righted(b))), 2, api.ErrText)
	}
	for _, at := range []int{11, 12, 300, 511} {
		b := sealed(2, "data")
		b[at] = 1
		refuseRead(t, opened(t, written(t, 4, filled(0), filled(0), righted(b))), 2, api.ErrText)
	}
}

func TestReadOfATurnedBit(t *testing.T) {
	for bit := range 8 * size {
		b := sealed(2, "some data")
		b[bit/8] ^= 1 << (bit % 8)
		d := written(t, 5, filled(0), filled(0), b, sealed(2, "whole"))
		p := opened(t, d)
		refuseRead(t, p, 2, api.ErrSum)
		giveRead(t, p, 3, "whole")
	}
}

// A page is read whether it is in use, Freed, free at once or free behind a Flip, again and again.
func TestReadInEachState(t *testing.T) {
	d := disk(t, 8)
	p := opened(t, d)
	pages := madeAll(t, p, "in use", "freed", "free behind a Flip", "free at once")
	all := func() {
		t.Helper()
		for range 2 {
			giveRead(t, p, pages[0], "in use")
			giveRead(t, p, pages[1], "freed")
			giveRead(t, p, pages[2], "free behind a Flip")
			giveRead(t, p, pages[3], "free at once")
		}
	}
	all()
	give(t, "Free", p.Free(pages[3]), api.OK)
	all()
	give(t, "Flip", p.Flip(0), api.OK)
	all()
	give(t, "Free", p.Free(pages[2]), api.OK)
	all()
	give(t, "Flip", p.Flip(pages[0]), api.OK)
	all()
	give(t, "Free", p.Free(pages[1]), api.OK)
	all()
	d.Crash(0)
	all()
	p = opened(t, d)
	all()
}

// Reading changes nothing: not the disk, not what is free, not the limit.
func TestReadDoesNothing(t *testing.T) {
	d := disk(t, 6)
	p := opened(t, d)
	pages := madeAll(t, p, "a", "b")
	give(t, "Flip", p.Flip(pages[0]), api.OK)
	give(t, "Free", p.Free(pages[1]), api.OK)
	made(t, p, "c")
	before, unsure := image(t, d), len(d.Unsure())
	d.Limit(1)
	for range 3 {
		for page := -2; page < 9; page++ {
			p.Read(page)
		}
		giveRoot(t, p, 1, pages[0])
		giveRoom(t, p, 1)
	}
	if d.Down() || !sameImage(image(t, d), before) || len(d.Unsure()) != unsure {
		t.Errorf("Read did something with the disk")
	}
}

// What New was given is read, whatever it is, also ahead of a Flip.
func TestReadOfWhatWasGiven(t *testing.T) {
	p := opened(t, disk(t, 2000))
	want := map[int]string{}
	for length := range mostData + 1 {
		for _, data := range []string{string(mixed(length, uint64(length))), strings.Repeat("\x00", length), strings.Repeat("\xFF", length)} {
			want[made(t, p, data)] = data
		}
	}
	for range 2 {
		for page, data := range want {
			giveRead(t, p, page, data)
		}
		give(t, "Flip", p.Flip(0), api.OK)
	}
	if len(want) != 3*(mostData+1) {
		t.Error(fmt.Sprint(len(want), " pages"))
	}
}
