package frame_test

import (
	"bytes"
	"hash/crc32"
	"slices"
	"testing"

	"merestone/frame"
)

func TestSumsWrittenOut(t *testing.T) {
	for _, c := range []struct {
		text string
		want uint32
	}{
		{"123456789", 0xCBF43926},
		{"", 0},
		{"\x00", 0xD202EF8D},
		{"\x01", 0xA505DF1B},
		{"\x80", 0x3FBA6CAD},
		{"\xff", 0xFF000000},
		{"a", 0xE8B7BE43},
		{"abc", 0x352441C2},
		{"cba", 0xD8AEF480},
		{"\x00\x00\x00\x00", 0x2144DF1C},
		{"\xff\xff\xff\xff", 0xFFFFFFFF},
		{"The quick brown fox jumps over the lazy dog", 0x414FA339},
		{string(make([]byte, 32)), 0x190A55AD},
	} {
		giveSum(t, []byte(c.text), c.want)
	}
	giveSum(t, nil, 0)
	giveSum(t, []byte{}, 0)
}

// Each byte alone, and each behind each other one.
func TestSumOfAllOfOneAndTwoBytes(t *testing.T) {
	for one := range 256 {
		b := []byte{byte(one)}
		giveSum(t, b, remainder(b))
		for two := range 256 {
			b := []byte{byte(one), byte(two)}
			giveSum(t, b, crc32.ChecksumIEEE(b))
		}
	}
}

func TestSumAsARemainder(t *testing.T) {
	for _, many := range []int{0, 1, 2, 3, 4, 5, 6, 7, 8, 9, 15, 16, 17, 31, 32, 33, 63, 64, 65, 255, 256, 257, 504, 505, 508, 511, 512, 513} {
		for _, b := range patterns(many) {
			giveSum(t, b, remainder(b))
		}
	}
}

func TestSumOfEachLength(t *testing.T) {
	for many := range 1100 {
		for _, b := range patterns(many) {
			giveSum(t, b, crc32.ChecksumIEEE(b))
		}
	}
}

func TestSumOfManyBytes(t *testing.T) {
	for _, many := range []int{1<<16 - 1, 1 << 16, 1<<16 + 1, 1<<20 + 3} {
		for _, b := range patterns(many) {
			giveSum(t, b, crc32.ChecksumIEEE(b))
		}
	}
}

// Each bit alone tells: no two places are the same to the sum.
func TestSumOfEachBit(t *testing.T) {
	seen := map[uint32]int{}
	for bit := range 8 * 40 {
		b := make([]byte, 40)
		b[bit/8] = 1 << (bit % 8)
		giveSum(t, b, remainder(b))
		seen[frame.Sum(b)]++
	}
	if len(seen) != 8*40 {
		t.Errorf("%d sums of %d lists", len(seen), 8*40)
	}
}

// Noughts ahead and behind count.
func TestSumOfNoughts(t *testing.T) {
	for many := range 40 {
		for _, text := range []string{"", "a", "\xff\xff\xff\xff"} {
			ahead := append(make([]byte, many), text...)
			behind := append([]byte(text), make([]byte, many)...)
			giveSum(t, ahead, remainder(ahead))
			giveSum(t, behind, remainder(behind))
		}
	}
}

// What stands in the spare room is not summed.
func TestSumWithoutSpareRoom(t *testing.T) {
	room := bytes.Repeat([]byte("merestone"), 20)
	for many := range room {
		giveSum(t, room[:many], crc32.ChecksumIEEE(slices.Clone(room[:many])))
		giveSum(t, room[many:many:many], 0)
	}
}
