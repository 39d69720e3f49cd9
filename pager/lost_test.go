package pager_test

import (
	"fmt"
	"testing"

	"merestone/api"
	"merestone/pager"
	"merestone/sector"
)

// askers are all calls that tell of ErrDown, with what could be done and what could not.
func askers(page int) map[string]func(p *pager.Pager) api.Errno {
	return map[string]func(p *pager.Pager) api.Errno{
		"Read":          func(p *pager.Pager) api.Errno { _, e := p.Read(page); return e },
		"Read of none":  func(p *pager.Pager) api.Errno { _, e := p.Read(1); return e },
		"New":           func(p *pager.Pager) api.Errno { _, e := p.New([]byte("data")); return e },
		"New, too much": func(p *pager.Pager) api.Errno { _, e := p.New(make([]byte, 506)); return e },
		"Use":           func(p *pager.Pager) api.Errno { return p.Use(page) },
		"Use of none":   func(p *pager.Pager) api.Errno { return p.Use(-1) },
		"Use()":         func(p *pager.Pager) api.Errno { return p.Use() },
		"Free":          func(p *pager.Pager) api.Errno { return p.Free(page) },
		"Free of none":  func(p *pager.Pager) api.Errno { return p.Free(page, 0) },
		"Free()":        func(p *pager.Pager) api.Errno { return p.Free() },
		"Flip":          func(p *pager.Pager) api.Errno { return p.Flip(page) },
		"Flip of 0":     func(p *pager.Pager) api.Errno { return p.Flip(0) },
		"Flip of none":  func(p *pager.Pager) api.Errno { return p.Flip(1) },
	}
}

// base is a disk of eight sectors with a root and a page that is free behind the next Flip.
func base(t *testing.T) (*sector.Disk, *pager.Pager, int) {
	t.Helper()
	d := disk(t, 8)
	p := opened(t, d)
	pages := madeAll(t, p, "root", "leaf")
	give(t, "Flip", p.Flip(pages[0]), api.OK)
	give(t, "Free", p.Free(pages[1]), api.OK)
	return d, p, pages[0]
}

// cut lets the power go, by somebody who is not the Pager.
func cut(d *sector.Disk) {
	d.Limit(1)
	d.Barrier()
}

// Whichever call answers ErrDown first, all do then, till the disk is opened again, also when it has its power back.
func TestBehindErrDown(t *testing.T) {
	d, p, page := base(t)
	for first := range askers(page) {
		for then := range askers(page) {
			d, p, page = base(t)
			cut(d)
			give(t, first, askers(page)[first](p), api.ErrDown)
			give(t, then+" behind "+first, askers(page)[then](p), api.ErrDown)
			d.Crash(0)
			give(t, then+" behind "+first+" with power", askers(page)[then](p), api.ErrDown)
			give(t, then+" again", askers(page)[then](p), api.ErrDown)
			giveRoot(t, p, 1, page)
			giveRoom(t, p, 4)
			other := opened(t, d)
			give(t, "Use", other.Use(page), api.OK)
			if e := askers(page)[then](other); e == api.ErrDown {
				t.Errorf("%s of a disk that was opened again: error %d", then, e)
			}
			give(t, then+" of the one that was not", askers(page)[then](p), api.ErrDown)
		}
	}
}

// The power goes in the call itself, at each step that it has.
func TestBehindACallThatIsCutOff(t *testing.T) {
	for name, steps := range map[string]int{"New": 1, "Flip": 3, "Flip of 0": 3} {
		for step := 1; step <= steps; step++ {
			for then := range askers(0) {
				d, p, page := base(t)
				d.Limit(step)
				tale := fmt.Sprintf("%s behind %s, the power gone at %d", then, name, step)
				give(t, name, askers(page)[name](p), api.ErrDown)
				d.Crash(0)
				before := image(t, d)
				give(t, tale, askers(page)[then](p), api.ErrDown)
				give(t, tale, askers(page)[then](p), api.ErrDown)
				giveRoot(t, p, 1, page)
				giveRoom(t, p, 4)
				if len(d.Unsure()) != 0 || !sameImage(image(t, d), before) {
					t.Errorf("%s: something was done with the disk", tale)
				}
				if then != "Flip" {
					giveRoot(t, opened(t, d), 1, page)
				}
			}
		}
	}
}

// What a Pager answers that has no power is not nothing: its root and its room are as they were.
func TestRootAndRoomWithoutPower(t *testing.T) {
	d, p, page := base(t)
	made(t, p, "more")
	for range 3 {
		cut(d)
		giveRoot(t, p, 1, page)
		giveRoom(t, p, 3)
	}
	give(t, "Free", p.Free(page), api.ErrDown)
	giveRoot(t, p, 1, page)
	giveRoom(t, p, 3)
	d.Crash(0)
	giveRoot(t, p, 1, page)
	giveRoom(t, p, 3)
}

// A Pager that did not answer ErrDown goes on when the power was gone and is back: Root and Room do not tell of it.
func TestPowerGoneAndBackUnseen(t *testing.T) {
	d, p, page := base(t)
	cut(d)
	giveRoot(t, p, 1, page)
	giveRoom(t, p, 4)
	d.Crash(0)
	giveRead(t, p, page, "root")
	next := made(t, p, "next")
	give(t, "Flip", p.Flip(next), api.OK)
	giveRoom(t, p, 4)
	giveRoot(t, opened(t, d), 2, next)
}

// Several Pagers of one disk, one behind the other, each lost in its own time; those that were stay lost.
func TestManyLostPagers(t *testing.T) {
	d := disk(t, 8)
	var lost []*pager.Pager
	for i := range 10 {
		p := opened(t, d)
		giveRoot(t, p, i, min(i, 1)*7)
		give(t, "Use", p.Use(7), api.OK)
		give(t, "Flip", p.Flip(7), api.OK)
		d.Limit(1)
		give(t, "Flip", p.Flip(7), api.ErrDown)
		lost = append(lost, p)
		d.Crash(0)
		for n, p := range lost {
			give(t, "Use", p.Use(7), api.ErrDown)
			giveRoot(t, p, n+1, 7)
		}
	}
}
