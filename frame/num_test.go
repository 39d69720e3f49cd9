package frame_test

import (
	"bytes"
	"math"
	"slices"
	"testing"

	"merestone/api"
	"merestone/frame"
)

// firsts answers what a number may be put behind, some with something in their spare room.
func firsts() [][]byte {
	return [][]byte{
		nil, {}, {0}, {0xFF}, {7, 0, 9}, mixed(505, 3),
		[]byte("aspare room")[:1], []byte("\x00\x00\xff\xff\xff\xff\xff\xff\xff\xff\xff\xff")[:2], make([]byte, 0, 8), bytes.Repeat([]byte{0xEE}, 9)[:0],
	}
}

// greatest answers the greatest int that so many bytes hold.
func greatest(length int) int {
	return []int{0, 0xFF, 0xFFFF, 0xFFFFFF, 0xFFFFFFFF, 0xFFFFFFFFFF, 0xFFFFFFFFFFFF, 0xFFFFFFFFFFFFFF, 0x7FFFFFFFFFFFFFFF}[length]
}

// noSizes are those that no number has, also such as are one when they are drawn out or cut off.
func noSizes() []int {
	list := []int{0, 9, 10, 11, 12, 15, 16, 17, 31, 32, 33, 63, 64, 65, 255, 256, 257, 264, math.MaxInt, math.MinInt}
	for _, many := range []int{1 << 8, 1 << 16, 1 << 29, 1 << 32, 1 << 61, 1 << 62} {
		for length := -1; length <= 8; length++ {
			list = append(list, many+length, -many+length, -many-length)
		}
	}
	for length := 1; length <= 20; length++ {
		list = append(list, -length, -8*length)
	}
	return list
}

// PutNum

func TestPutNumWrittenOut(t *testing.T) {
	for _, c := range []struct {
		n, length int
		want      string
	}{
		{0, 1, "\x00"}, {1, 1, "\x01"}, {128, 1, "\x80"}, {255, 1, "\xff"},
		{0, 2, "\x00\x00"}, {1, 2, "\x00\x01"}, {258, 2, "\x01\x02"}, {505, 2, "\x01\xf9"}, {65535, 2, "\xff\xff"},
		{0x010203, 3, "\x01\x02\x03"}, {0x01020304, 4, "\x01\x02\x03\x04"}, {0xCBF43926, 4, "\xcb\xf4\x39\x26"},
		{0x0102030405, 5, "\x01\x02\x03\x04\x05"}, {0x010203040506, 6, "\x01\x02\x03\x04\x05\x06"},
		{0x01020304050607, 7, "\x01\x02\x03\x04\x05\x06\x07"}, {0x0102030405060708, 8, "\x01\x02\x03\x04\x05\x06\x07\x08"},
		{1, 8, "\x00\x00\x00\x00\x00\x00\x00\x01"}, {0, 8, "\x00\x00\x00\x00\x00\x00\x00\x00"},
		{math.MaxInt, 8, "\x7f\xff\xff\xff\xff\xff\xff\xff"},
	} {
		givePut(t, nil, c.n, c.length, []byte(c.want))
		givePut(t, []byte("ab"), c.n, c.length, []byte("ab"+c.want))
	}
}

// The greatest number that fits, the ones beside it, and the next one.
func TestPutNumOfEachSize(t *testing.T) {
	for length := 1; length <= 8; length++ {
		most := greatest(length)
		full := bytes.Repeat([]byte{0xFF}, length)
		if length == 8 {
			full[0] = 0x7F
		}
		below := slices.Clone(full)
		below[length-1] = 0xFE
		for _, b := range firsts() {
			givePut(t, b, 0, length, slices.Concat(b, make([]byte, length)))
			givePut(t, b, most, length, slices.Concat(b, full))
			givePut(t, b, most-1, length, slices.Concat(b, below))
			if length < 8 {
				leave(t, b, most+1, length)
				leave(t, b, most+2, length)
				leave(t, b, 2*most+1, length)
				leave(t, b, math.MaxInt, length)
				givePut(t, b, most+1, length+1, slices.Concat(b, []byte{1}, make([]byte, length)))
			}
		}
	}
}

// What would be left of the number if it were cut is of no account.
func TestPutNumThatDoesNotFit(t *testing.T) {
	for length := 1; length <= 7; length++ {
		for bit := 8 * length; bit < 63; bit++ {
			for _, low := range []int{0, 1, greatest(length)} {
				leave(t, []byte("ab"), 1<<bit+low, length)
			}
		}
	}
}

func TestPutNumBelowNought(t *testing.T) {
	for length := 1; length <= 8; length++ {
		for _, b := range firsts() {
			for _, n := range edges() {
				if n < 0 {
					leave(t, b, n, length)
				}
			}
		}
	}
}

func TestPutNumOfNoSize(t *testing.T) {
	for _, length := range noSizes() {
		for _, b := range firsts() {
			for _, n := range []int{0, 1, 255, 256, 1 << 32, math.MaxInt, -1, math.MinInt} {
				leave(t, b, n, length)
			}
		}
	}
}

func TestPutNumOfAllEdges(t *testing.T) {
	for _, n := range edges() {
		for length := -9; length <= 17; length++ {
			for _, b := range firsts()[:6] {
				givePut(t, b, n, length, judgedPut(b, n, length))
			}
		}
	}
}

// Num

func TestNumWrittenOut(t *testing.T) {
	b := []byte("\x00\x01\x02\x03\x04\x05\x06\x07\x08\xff\xff\xff\xff\xff\xff\xff\x80")
	for _, c := range []struct{ at, length, want int }{
		{0, 1, 0}, {1, 1, 1}, {8, 1, 8}, {9, 1, 255}, {16, 1, 128},
		{0, 2, 1}, {1, 2, 0x0102}, {8, 2, 0x08FF}, {15, 2, 0xFF80},
		{2, 3, 0x020304}, {14, 3, 0xFFFF80}, {0, 4, 0x00010203}, {9, 4, 0xFFFFFFFF}, {13, 4, 0xFFFFFF80},
		{3, 5, 0x0304050607}, {12, 5, 0xFFFFFFFF80}, {2, 6, 0x020304050607}, {11, 6, 0xFFFFFFFFFF80},
		{0, 7, 0x010203040506}, {2, 7, 0x02030405060708}, {9, 7, 0xFFFFFFFFFFFFFF}, {10, 7, 0xFFFFFFFFFFFF80},
	} {
		giveNum(t, b, c.at, c.length, c.want)
	}
}

// What was put is there, whatever is ahead and behind.
func TestNumOfWhatWasPut(t *testing.T) {
	for length := 1; length <= 7; length++ {
		for _, n := range append(edges(), greatest(length), greatest(length)-1, greatest(length)/2, greatest(length)/3) {
			if n < 0 || n > greatest(length) {
				continue
			}
			for _, b := range firsts() {
				for _, behind := range []string{"", "\x00", "\xff\xff\xff\xff\xff\xff\xff\xff"} {
					giveNum(t, append(frame.PutNum(b, n, length), behind...), len(b), length, n)
				}
			}
		}
	}
}

// At each place up to the last one where there are enough bytes, and at the next ones, where they are lacking.
func TestNumAtEachPlace(t *testing.T) {
	for many := range 20 {
		for _, b := range patterns(many) {
			for length := 1; length <= 7; length++ {
				for at := 0; at <= many-length; at++ {
					want, _ := judgedNum(b, at, length)
					giveNum(t, b, at, length, want)
				}
				for at := max(0, many-length+1); at < many+10; at++ {
					refuseNum(t, b, at, length, api.ErrShort)
				}
			}
		}
	}
}

func TestNumOfNoBytes(t *testing.T) {
	for length := 1; length <= 7; length++ {
		refuseNum(t, nil, 0, length, api.ErrShort)
		refuseNum(t, []byte{}, 0, length, api.ErrShort)
		refuseNum(t, nil, math.MaxInt, length, api.ErrShort)
	}
}

// The place and the size together are beyond the greatest int.
func TestNumAtTheGreatestPlaces(t *testing.T) {
	for _, b := range [][]byte{nil, {1}, mixed(8, 4), mixed(size, 4)} {
		for length := 1; length <= 7; length++ {
			for back := range 600 {
				refuseNum(t, b, math.MaxInt-back, length, api.ErrShort)
			}
			for bit := 10; bit < 63; bit++ {
				refuseNum(t, b, 1<<bit, length, api.ErrShort)
				refuseNum(t, b, 1<<bit-1, length, api.ErrShort)
				refuseNum(t, b, 1<<bit+1, length, api.ErrShort)
			}
		}
	}
}

func TestNumFarBehind(t *testing.T) {
	b := mixed(1<<17, 5)
	for length := 1; length <= 7; length++ {
		for _, at := range []int{255, 256, 65535, 65536, 65537, 100000, len(b) - length} {
			want, _ := judgedNum(b, at, length)
			giveNum(t, b, at, length, want)
		}
		refuseNum(t, b, len(b)-length+1, length, api.ErrShort)
	}
}

// The size and the place are looked at first: whether there are enough bytes or not.
func TestNumOfNoSizeOrPlace(t *testing.T) {
	for _, b := range [][]byte{nil, {1}, mixed(8, 6), mixed(100, 6)} {
		for _, length := range append(noSizes(), 8) {
			for _, at := range []int{0, 1, 8, 92, 93, 100, math.MaxInt, -1, math.MinInt} {
				refuseNum(t, b, at, length, api.ErrArg)
			}
		}
		for length := 1; length <= 7; length++ {
			for _, at := range edges() {
				if at < 0 {
					refuseNum(t, b, at, length, api.ErrArg)
				}
			}
		}
	}
}

func TestNumOfAllEdges(t *testing.T) {
	numbers := append(edges(), noSizes()...)
	for _, b := range [][]byte{nil, mixed(1, 7), mixed(7, 7), mixed(70, 7)} {
		for _, at := range numbers {
			for _, length := range numbers {
				want, e := judgedNum(b, at, length)
				if e == api.OK {
					giveNum(t, b, at, length, want)
				} else {
					refuseNum(t, b, at, length, e)
				}
			}
		}
	}
}

// What stands in the spare room is not there.
func TestNumWithoutSpareRoom(t *testing.T) {
	b := bytes.Repeat([]byte{7}, 40)
	for length := 1; length <= 7; length++ {
		for many := range 20 {
			refuseNum(t, b[:many], max(0, many-length+1), length, api.ErrShort)
			refuseNum(t, b[:many], many, length, api.ErrShort)
		}
	}
}
