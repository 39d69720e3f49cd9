package frame_test

import (
	"bytes"
	"encoding/binary"
	"fmt"
	"hash/crc32"
	"math"
	"math/big"
	"math/bits"
	"math/rand/v2"
	"slices"
	"testing"

	"merestone/api"
	"merestone/frame"
)

// The calls as the chapter lists them: this does not compile if one is another.
var (
	_ func([]byte) uint32                     = frame.Sum
	_ func(int, []byte) ([]byte, api.Errno)   = frame.Seal
	_ func([]byte) (int, []byte, api.Errno)   = frame.Open
	_ func([]byte, int, int) []byte           = frame.PutNum
	_ func([]byte, int, int) (int, api.Errno) = frame.Num
)

// A sector, and the most data that fits, written out.
const (
	size = 512
	most = 505
)

// Reckonings of another kind

// remainder is RFC 1952's sum as the division of one great polynomial by another.
func remainder(b []byte) uint32 {
	message := new(big.Int)
	length := 8*len(b) + 32
	for i, c := range b {
		for bit := range 8 {
			message.SetBit(message, length-1-8*i-bit, uint(c>>bit&1))
		}
	}
	ones := new(big.Int).Lsh(big.NewInt(math.MaxUint32), uint(length-32))
	message.Xor(message, ones)
	divisor := big.NewInt(0x104C11DB7)
	for top := message.BitLen(); top > 32; top = message.BitLen() {
		message.Xor(message, new(big.Int).Lsh(divisor, uint(top-33)))
	}
	return ^bits.Reverse32(uint32(message.Uint64()))
}

// judgedPut takes the number as a great one, and fills bytes with it.
func judgedPut(b []byte, n, length int) []byte {
	if length < 1 || length > 8 || n < 0 || big.NewInt(int64(n)).BitLen() > 8*length {
		return slices.Concat(b)
	}
	return slices.Concat(b, big.NewInt(int64(n)).FillBytes(make([]byte, length)))
}

// judgedNum reckons where the number would end by great numbers.
func judgedNum(b []byte, at, length int) (int, api.Errno) {
	if at < 0 || !slices.Contains([]int{1, 2, 3, 4, 5, 6, 7}, length) {
		return 0, api.ErrArg
	}
	end := new(big.Int).Add(big.NewInt(int64(at)), big.NewInt(int64(length)))
	if end.Cmp(big.NewInt(int64(len(b)))) > 0 {
		return 0, api.ErrShort
	}
	return int(new(big.Int).SetBytes(b[at:end.Int64()]).Int64()), api.OK
}

// made is a sector of those parts, whether they fit or not; its sum is right.
func made(kind, length int, rest []byte) []byte {
	b := make([]byte, size)
	b[4] = byte(kind)
	binary.BigEndian.PutUint16(b[5:], uint16(length))
	copy(b[7:], rest)
	return righted(b)
}

// righted makes a sector's sum right.
func righted(b []byte) []byte {
	binary.BigEndian.PutUint32(b, crc32.ChecksumIEEE(b[4:]))
	return b
}

func judgedSeal(kind int, data []byte) ([]byte, api.Errno) {
	switch {
	case kind <= 0 || kind >= 256:
		return nil, api.ErrArg
	case len(data) >= 506:
		return nil, api.ErrLarge
	}
	return made(kind, len(data), data), api.OK
}

func judgedOpen(b []byte) (int, []byte, api.Errno) {
	if len(b) != size {
		return 0, nil, api.ErrShort
	}
	if !bytes.Equal(righted(slices.Clone(b)), b) {
		return 0, nil, api.ErrSum
	}
	length := int(binary.BigEndian.Uint16(b[5:7]))
	if b[4] == 0 || length >= 506 || !bytes.Equal(b[7+length:], noughts(most-length)) {
		return 0, nil, api.ErrText
	}
	return int(b[4]), b[7 : 7+length], api.OK
}

// What is asked for

func giveSum(t *testing.T, b []byte, want uint32) {
	t.Helper()
	if got := frame.Sum(b); got != want {
		t.Errorf("Sum(%s): %08X, not %08X", brief(b), got, want)
	}
}

func givePut(t *testing.T, b []byte, n, length int, want []byte) {
	t.Helper()
	if got := frame.PutNum(b, n, length); !bytes.Equal(got, want) {
		t.Errorf("PutNum(%s, %d, %d): %s, not %s", brief(b), n, length, brief(got), brief(want))
	}
}

// leave asks for b as it is.
func leave(t *testing.T, b []byte, n, length int) {
	t.Helper()
	givePut(t, b, n, length, slices.Clone(b))
}

func giveNum(t *testing.T, b []byte, at, length, want int) {
	t.Helper()
	if n, e := frame.Num(b, at, length); n != want || e != api.OK {
		t.Errorf("Num(%s, %d, %d): %d, %d, not %d", brief(b), at, length, n, e, want)
	}
}

// refuseNum asks for an error, and for nothing else beside it.
func refuseNum(t *testing.T, b []byte, at, length int, fault api.Errno) {
	t.Helper()
	if n, e := frame.Num(b, at, length); n != 0 || e != fault {
		t.Errorf("Num(%s, %d, %d): %d, %d, not %d", brief(b), at, length, n, e, fault)
	}
}

func giveSeal(t *testing.T, kind int, data, want []byte) {
	t.Helper()
	b, e := frame.Seal(kind, data)
	if !bytes.Equal(b, want) || e != api.OK {
		t.Errorf("Seal(%d, %s): %s, %d, not %s", kind, brief(data), brief(b), e, brief(want))
	}
}

func refuseSeal(t *testing.T, kind int, data []byte, fault api.Errno) {
	t.Helper()
	if b, e := frame.Seal(kind, data); len(b) != 0 || e != fault {
		t.Errorf("Seal(%d, %s): %s, %d, not %d", kind, brief(data), brief(b), e, fault)
	}
}

func giveOpen(t *testing.T, b []byte, kind int, data []byte) {
	t.Helper()
	k, got, e := frame.Open(b)
	if k != kind || !bytes.Equal(got, data) || e != api.OK {
		t.Errorf("Open(%s): %d, %s, %d, not %d, %s", brief(b), k, brief(got), e, kind, brief(data))
	}
}

func refuseOpen(t *testing.T, b []byte, fault api.Errno) {
	t.Helper()
	if k, data, e := frame.Open(b); k != 0 || len(data) != 0 || e != fault {
		t.Errorf("Open(%s): %d, %s, %d, not %d", brief(b), k, brief(data), e, fault)
	}
}

// brief is bytes to be shown, cut where they are many.
func brief(b []byte) string {
	if len(b) > 40 {
		return fmt.Sprintf("%d bytes: %x .. %x", len(b), b[:24], b[len(b)-8:])
	}
	return fmt.Sprintf("%d bytes: %x", len(b), b)
}

// Bytes to be tried

// patterns answers lists of that many bytes: all 0, all 1, all FF, counted up from 1, only the last one not 0, only the first one, and two mixed ones, which are the same at each call.
func patterns(many int) [][]byte {
	list := [][]byte{make([]byte, many), bytes.Repeat([]byte{1}, many), bytes.Repeat([]byte{0xFF}, many)}
	counted, last, first := make([]byte, many), make([]byte, many), make([]byte, many)
	for i := range counted {
		counted[i] = byte(i + 1)
	}
	if many > 0 {
		last[many-1], first[0] = 0x80, 1
	}
	return append(list, counted, last, first, mixed(many, 1), mixed(many, 2))
}

// mixed answers bytes in no order, the same ones for the same seed.
func mixed(many int, seed uint64) []byte {
	from := rand.New(rand.NewPCG(seed, 13))
	b := make([]byte, many)
	for i := range b {
		b[i] = byte(from.Uint32())
	}
	return b
}

// edges answers ints at which something may go wrong: at and beside 0, the powers of 2, and the ends.
func edges() []int {
	list := []int{0, math.MaxInt, math.MaxInt - 1, math.MinInt, math.MinInt + 1}
	for bit := range 63 {
		for beside := -1; beside <= 1; beside++ {
			list = append(list, 1<<bit+beside, -(1<<bit)+beside)
		}
	}
	slices.Sort(list)
	return slices.Compact(list)
}
