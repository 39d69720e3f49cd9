package frame_test

import (
	"bytes"
	"math"
	"slices"
	"testing"

	"merestone/api"
	"merestone/frame"
)

func TestChaptersExample(t *testing.T) {
	giveSum(t, []byte("123456789"), 0xCBF43926)
	b, e := frame.Seal(1, nil)
	if len(b) != size || e != api.OK {
		t.Fatalf("Seal(1, nil): %s, %d", brief(b), e)
	}
	if b[4] != 1 || !bytes.Equal(b[5:], make([]byte, 507)) {
		t.Errorf("Seal(1, nil): %x", b)
	}
}

// noughts answers so many bytes that are 0.
func noughts(many int) []byte {
	return make([]byte, many)
}

// Each byte of a sector, written out.
func TestSectorsWrittenOut(t *testing.T) {
	full := bytes.Repeat([]byte{0xFF}, 505)
	for _, c := range []struct {
		kind       int
		data, want []byte
	}{
		{1, nil, slices.Concat([]byte("\xc8\x37\x29\xf5\x01\x00\x00"), noughts(505))},
		{2, []byte("abc"), slices.Concat([]byte("\x6a\xc4\x9c\x2d\x02\x00\x03abc"), noughts(502))},
		{255, noughts(256), slices.Concat([]byte("\x20\x77\x48\x99\xff\x01\x00"), noughts(505))},
		{9, full, slices.Concat([]byte("\x11\xd1\x71\x14\x09\x01\xf9"), full)},
	} {
		giveSeal(t, c.kind, c.data, c.want)
		giveOpen(t, c.want, c.kind, c.data)
	}
}

// sealed holds Seal against its reckoning, and what Open answers of it against what was sealed.
func sealed(t *testing.T, kind int, data []byte) {
	t.Helper()
	want, e := judgedSeal(kind, data)
	if e != api.OK {
		t.Fatalf("Seal(%d, %s) should be refused", kind, brief(data))
	}
	giveSeal(t, kind, data, want)
	giveOpen(t, want, kind, data)
}

func TestSealOfAllKinds(t *testing.T) {
	for kind := 1; kind <= 255; kind++ {
		for _, many := range []int{0, 1, 2, 7, 255, 256, 257, 504, 505} {
			for _, data := range patterns(many) {
				sealed(t, kind, data)
			}
		}
	}
}

func TestSealOfAllLengths(t *testing.T) {
	for many := 0; many <= most; many++ {
		for _, data := range patterns(many) {
			for _, kind := range []int{1, 2, 128, 255} {
				sealed(t, kind, data)
			}
		}
	}
}

func TestSealOfNilAndOfNothing(t *testing.T) {
	for _, kind := range []int{1, 2, 255} {
		sealed(t, kind, nil)
		sealed(t, kind, []byte{})
		sealed(t, kind, bytes.Repeat([]byte{7}, 600)[:0])
		refuseSeal(t, 0, []byte{}, api.ErrArg)
	}
}

// A sector within a sector: as much of one as fits.
func TestSealOfASector(t *testing.T) {
	inner, _ := judgedSeal(3, []byte("data"))
	sealed(t, 4, inner[:most])
	refuseSeal(t, 4, inner, api.ErrLarge)
}

// What stands in the spare room is not sealed.
func TestSealWithoutSpareRoom(t *testing.T) {
	room := bytes.Repeat([]byte{0xEE}, 1000)
	for many := 0; many <= most; many++ {
		sealed(t, 5, room[:many])
	}
}

// noKinds are those that no sector has, also such as are one when they are cut off.
func noKinds() []int {
	list := []int{0, 256, 257, 258, 511, 512, 513, 1 << 16, 1<<16 + 1, 1<<32 + 1, 1<<62 + 1, math.MaxInt, math.MinInt, math.MinInt + 1}
	for less := 1; less <= 260; less++ {
		list = append(list, -less, 255+less)
	}
	for _, n := range edges() {
		if n < 1 || n > 255 {
			list = append(list, n)
		}
	}
	return list
}

func TestSealOfNoKind(t *testing.T) {
	for _, kind := range noKinds() {
		refuseSeal(t, kind, nil, api.ErrArg)
		refuseSeal(t, kind, []byte("data"), api.ErrArg)
		refuseSeal(t, kind, mixed(505, 1), api.ErrArg)
	}
}

func TestSealOfTooMuch(t *testing.T) {
	for _, many := range []int{506, 507, 508, 511, 512, 513, 1000, 1 << 16, 1<<16 + 1, 1<<16 + 505, 1 << 20} {
		for _, data := range patterns(many) {
			for _, kind := range []int{1, 2, 255} {
				refuseSeal(t, kind, data, api.ErrLarge)
			}
		}
	}
}

// The kind is looked at first.
func TestWhichErrorOfSeal(t *testing.T) {
	for _, kind := range noKinds() {
		refuseSeal(t, kind, noughts(506), api.ErrArg)
		refuseSeal(t, kind, noughts(1<<16), api.ErrArg)
	}
}
