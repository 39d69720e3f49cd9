package pager

import (
	"merestone/api"
	"merestone/frame"
	"merestone/sector"
)

const (
	flipSectors = 2 // they are ahead of the pages, and hold the last two flips
	flipKind    = 1
	seqSize     = 7
	rootSize    = 4
)

// flip is a root that was flipped, and how many flips there were then.
type flip struct{ seq, root int }

// lastFlip answers the flip with the highest number that stands on a disk; the zero flip, if there is none.
func lastFlip(d *sector.Disk) (flip, api.Errno) {
	var last flip
	for at := range flipSectors {
		b, e := d.Read(at)
		if e != api.OK {
			return flip{}, e
		}
		if f := openedFlip(b); f.seq > last.seq && f.fits(d.Len()) {
			last = f
		}
	}
	return last, api.OK
}

// openedFlip answers the flip that a sector holds; the zero flip, if it holds anything else.
func openedFlip(b []byte) flip {
	kind, data, e := frame.Open(b)
	if e != api.OK || kind != flipKind || len(data) != seqSize+rootSize {
		return flip{}
	}
	seq, _ := frame.Num(data, 0, seqSize)
	root, _ := frame.Num(data, seqSize, rootSize)
	return flip{seq, root}
}

// fits answers whether a disk of so many sectors can have the root.
func (f flip) fits(sectors int) bool {
	return f.root == 0 || isPage(f.root, sectors)
}

// sealed answers the sector that holds the flip.
func (f flip) sealed() []byte {
	data := frame.PutNum(frame.PutNum(nil, f.seq, seqSize), f.root, rootSize)
	b, _ := frame.Seal(flipKind, data)
	return b
}

// place answers the sector in which the flip stands. That isn't the one of the flip ahead of it, which is the last one if this one is forgotten.
func (f flip) place() int {
	return f.seq % flipSectors
}
