package record

import (
	"iter"

	"merestone/api"
	"merestone/frame"
	"merestone/grid"
)

// What the keys begin with.
const (
	outerMark  = 'o'
	parcelMark = 'p'
	edgeMark   = 'e'
	cellMark   = 'c'
)

// How many bytes there are of what keys and values have.
const (
	markSize  = 1
	coordSize = 4
	idSize    = 4
	partSize  = 1
	cellSize  = 1
)

const (
	chunkPoints = 16  // of an item's value
	cellShift   = 128 // no cell's number is below 0 with it
)

func outerItems(outer api.Ring) []api.Item {
	var list []api.Item
	for k, points := range chunks(outer) {
		key := frame.PutNum([]byte{outerMark}, k, partSize)
		list = append(list, api.Item{Key: key, Value: bytesOf(points)})
	}
	return list
}

// parcelItems answers the parcel's owner as part 0, and behind it the parts of its ring.
func parcelItems(parcel api.Parcel) []api.Item {
	head := putID([]byte{parcelMark}, parcel.ID)
	list := []api.Item{{Key: frame.PutNum(head, 0, partSize), Value: []byte(parcel.Owner)}}
	for k, points := range chunks(parcel.Ring) {
		list = append(list, api.Item{Key: frame.PutNum(head, k+1, partSize), Value: bytesOf(points)})
	}
	return list
}

func edgeItems(parcel api.Parcel) []api.Item {
	var list []api.Item
	for i, a := range parcel.Ring {
		b := parcel.Ring[(i+1)%len(parcel.Ring)]
		key := putPoint(putPoint([]byte{edgeMark}, a), b)
		list = append(list, api.Item{Key: key, Value: putID(nil, parcel.ID)})
	}
	return list
}

func cellItems(parcel api.Parcel) []api.Item {
	var list []api.Item
	cells, _ := grid.Cells(parcel.Ring)
	for _, cell := range cells {
		key := frame.PutNum([]byte{cellMark}, cell.X+cellShift, cellSize)
		key = frame.PutNum(key, cell.Y+cellShift, cellSize)
		list = append(list, api.Item{Key: putID(key, parcel.ID)})
	}
	return list
}

// chunks goes through the points by as many as an item has, numbered from 0 on; of no points there is none.
func chunks(r api.Ring) iter.Seq2[int, api.Ring] {
	return func(yield func(int, api.Ring) bool) {
		for k := 0; k*chunkPoints < len(r); k++ {
			if !yield(k, r[k*chunkPoints:min((k+1)*chunkPoints, len(r))]) {
				return
			}
		}
	}
}

func bytesOf(points api.Ring) []byte {
	var b []byte
	for _, p := range points {
		b = putPoint(b, p)
	}
	return b
}

func putPoint(b []byte, p api.Point) []byte {
	b = frame.PutNum(b, p.X+api.MaxCoord, coordSize)
	return frame.PutNum(b, p.Y+api.MaxCoord, coordSize)
}

func putID(b []byte, id int) []byte {
	return frame.PutNum(b, id, idSize)
}
