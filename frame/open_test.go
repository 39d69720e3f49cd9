package frame_test

import (
	"bytes"
	"encoding/binary"
	"hash/crc32"
	"slices"
	"testing"

	"merestone/api"
	"merestone/frame"
)

// sectors answers some that were sealed.
func sectors() [][]byte {
	return [][]byte{
		made(1, 0, nil), made(2, 3, []byte("abc")), made(255, 256, noughts(256)), made(2, 505, bytes.Repeat([]byte{0xFF}, 505)),
		made(128, 504, mixed(504, 8)), made(7, 505, mixed(505, 9)), made(3, 255, mixed(255, 10)), made(1, 1, []byte{0}),
	}
}

// hold holds Open of a sector against the reckoning.
func hold(t *testing.T, b []byte) {
	t.Helper()
	kind, data, e := judgedOpen(b)
	if e == api.OK {
		giveOpen(t, b, kind, data)
	} else {
		refuseOpen(t, b, e)
	}
}

// Noughts with which data ends are data, and those with which it begins.
func TestOpenKeepsNoughts(t *testing.T) {
	for many := 0; many <= most; many++ {
		giveOpen(t, made(6, many, nil), 6, noughts(many))
	}
	giveOpen(t, made(6, 5, []byte{0, 0, 1, 0, 0}), 6, []byte{0, 0, 1, 0, 0})
	giveOpen(t, made(6, 505, []byte{0, 0, 1}), 6, slices.Concat([]byte{0, 0, 1}, noughts(502)))
}

func TestOpenOfOtherSizes(t *testing.T) {
	refuseOpen(t, nil, api.ErrShort)
	refuseOpen(t, []byte{}, api.ErrShort)
	for _, b := range sectors() {
		for many := range size {
			// With the rest of the sector in the spare room, and without.
			refuseOpen(t, b[:many], api.ErrShort)
			refuseOpen(t, slices.Clone(b[:many]), api.ErrShort)
			refuseOpen(t, b[size-many:], api.ErrShort)
		}
		for _, more := range []int{1, 2, 7, 511, 512, 513, 1024, 1 << 16, 1 << 20} {
			refuseOpen(t, append(slices.Clone(b), noughts(more)...), api.ErrShort)
			refuseOpen(t, append(noughts(more), b...), api.ErrShort)
		}
		refuseOpen(t, slices.Concat(b, b), api.ErrShort)
	}
}

// Lists that are too short or too long are told as such, though their sums are right too.
func TestOpenOfOtherSizesWithTheirSums(t *testing.T) {
	for many := 4; many < 1100; many++ {
		if many != size {
			b := noughts(many)
			if many > 6 {
				b[4], b[6] = 1, 0
			}
			refuseOpen(t, righted(b), api.ErrShort)
		}
	}
}

func TestOpenOfASectorInRoom(t *testing.T) {
	for _, b := range sectors() {
		room := slices.Concat(b, bytes.Repeat([]byte{0xEE}, 600))
		kind, data, _ := judgedOpen(b)
		giveOpen(t, room[:size], kind, data)
	}
}

func TestOpenOfEachBitChanged(t *testing.T) {
	for _, b := range sectors() {
		for bit := range 8 * size {
			b[bit/8] ^= 1 << (bit % 8)
			refuseOpen(t, b, api.ErrSum)
			b[bit/8] ^= 1 << (bit % 8)
		}
		hold(t, b)
	}
}

func TestOpenOfEachByteChanged(t *testing.T) {
	b := made(2, 300, mixed(300, 11))
	for at := range b {
		for by := 1; by < 256; by++ {
			b[at] ^= byte(by)
			refuseOpen(t, b, api.ErrSum)
			b[at] ^= byte(by)
		}
	}
}

// Sums that are right in part, or otherwise written.
func TestOpenOfOtherSums(t *testing.T) {
	for _, b := range sectors() {
		sum := binary.BigEndian.Uint32(b)
		for _, other := range []uint32{0, ^sum, sum + 1, sum - 1, sum << 8, sum >> 8, sum ^ 0xFF000000, sum ^ 0xFFFF0000, crc32.ChecksumIEEE(b), crc32.ChecksumIEEE(b[5:]), crc32.Checksum(b[4:], crc32.MakeTable(crc32.Castagnoli))} {
			wrong := slices.Clone(b)
			binary.BigEndian.PutUint32(wrong, other)
			refuseOpen(t, wrong, api.ErrSum)
		}
		turned := slices.Clone(b)
		binary.LittleEndian.PutUint32(turned, sum)
		refuseOpen(t, turned, api.ErrSum)
	}
	refuseOpen(t, noughts(size), api.ErrSum)
	refuseOpen(t, bytes.Repeat([]byte{0xFF}, size), api.ErrSum)
}

// With a sum that is right

func TestOpenOfNoKind(t *testing.T) {
	for many := 0; many <= most; many++ {
		refuseOpen(t, made(0, many, nil), api.ErrText)
		refuseOpen(t, made(0, many, mixed(many, 12)), api.ErrText)
	}
	for kind := 1; kind <= 255; kind++ {
		giveOpen(t, made(kind, 2, []byte("ab")), kind, []byte("ab"))
	}
}

// All lengths that two bytes tell.
func TestOpenOfAllLengths(t *testing.T) {
	for length := range 1 << 16 {
		b := made(1, length, nil)
		if length <= most {
			giveOpen(t, b, 1, noughts(length))
		} else {
			refuseOpen(t, b, api.ErrText)
		}
	}
	for length := most + 1; length < most+600; length++ {
		refuseOpen(t, made(1, length, bytes.Repeat([]byte{1}, most)), api.ErrText)
	}
}

// The length tells how much is data: more than was sealed has noughts, less leaves something behind the data.
func TestOpenOfOtherLengths(t *testing.T) {
	data := bytes.Repeat([]byte{7}, 100)
	for length := 0; length <= most; length++ {
		b := made(1, length, data)
		if length < 100 {
			refuseOpen(t, b, api.ErrText)
		} else {
			giveOpen(t, b, 1, slices.Concat(data, noughts(length-100)))
		}
	}
}

// One byte behind the data, at each place, is not 0.
func TestOpenOfBytesBehindTheData(t *testing.T) {
	for _, length := range []int{0, 1, 5, 255, 256, 300, 503, 504} {
		for at := length; at < most; at++ {
			for _, c := range []byte{1, 2, 4, 8, 16, 32, 64, 128, 255, ' '} {
				rest := slices.Concat(mixed(length, 13), noughts(most-length))
				rest[at] = c
				refuseOpen(t, made(2, length, rest), api.ErrText)
			}
		}
	}
	// Two that are nothing together.
	rest := noughts(most)
	rest[10], rest[11] = 1, 0xFF
	refuseOpen(t, made(2, 3, rest), api.ErrText)
	rest[10], rest[11] = 0x55, 0x55
	refuseOpen(t, made(2, 3, rest), api.ErrText)
}

// Any bytes of any head, as the reckoning has it.
func TestOpenOfMixedSectors(t *testing.T) {
	for seed := range uint64(2000) {
		b := mixed(size, seed)
		hold(t, b)
		hold(t, righted(b))
		b[5] &= 1
		hold(t, righted(b))
		length := int(binary.BigEndian.Uint16(b[5:]))
		if length <= most {
			clear(b[7+length:])
			hold(t, righted(b))
		}
	}
}

// Which error is told first

// faulty answers a sector with those faults, and of other ones none.
func faulty(kind, length, behind, sum bool) []byte {
	parts := []byte("abc")
	b := made(2, 3, parts)
	if kind {
		b[4] = 0
	}
	if length {
		b[5] = 0xFF
	}
	if behind {
		b[size-1] = 1
	}
	righted(b)
	if sum {
		b[0] ^= 1
	}
	return b
}

func TestWhichErrorOfOpen(t *testing.T) {
	for faults := range 16 {
		kind, length, behind, sum := faults&1 > 0, faults&2 > 0, faults&4 > 0, faults&8 > 0
		b := faulty(kind, length, behind, sum)
		switch {
		case sum:
			refuseOpen(t, b, api.ErrSum)
		case kind || length || behind:
			refuseOpen(t, b, api.ErrText)
		default:
			giveOpen(t, b, 2, []byte("abc"))
		}
		for many := range size {
			refuseOpen(t, b[:many], api.ErrShort)
		}
		refuseOpen(t, append(b, 0), api.ErrShort)
	}
}

// What Seal refuses is nothing that Open takes.
func TestOpenOfWhatSealRefuses(t *testing.T) {
	for _, c := range []struct{ kind, many int }{{0, 0}, {256, 0}, {1, 506}, {0, 506}} {
		b, _ := frame.Seal(c.kind, noughts(c.many))
		refuseOpen(t, b, api.ErrShort)
	}
}
