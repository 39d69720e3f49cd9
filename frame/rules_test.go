package frame_test

import (
	"bytes"
	"math"
	"slices"
	"sync"
	"testing"

	"merestone/api"
	"merestone/frame"
)

// untouched runs a call with a list that has something in its spare room, and asks that all of it is as it was.
func untouched(t *testing.T, name string, list []byte, call func([]byte)) {
	t.Helper()
	for _, spare := range []int{0, 1, 3, 8, 600} {
		room := slices.Concat(list, bytes.Repeat([]byte{0xEE}, spare))
		before := slices.Clone(room)
		call(room[:len(list)])
		if !bytes.Equal(room, before) {
			t.Errorf("%s of %s with %d to spare made %s of it", name, brief(list), spare, brief(room))
		}
	}
}

// What is handed in stays as it is, its spare room too, whether it is refused or not.
func TestListsStayAsTheyAre(t *testing.T) {
	for _, many := range []int{0, 1, 3, 7, 100, 504, 505, 506, 511, 512, 513, 2000} {
		for _, b := range append(patterns(many), sectors()...) {
			untouched(t, "Sum", b, func(b []byte) { frame.Sum(b) })
			untouched(t, "Open", b, func(b []byte) { frame.Open(b) })
			for _, kind := range []int{0, 1, 255, 256} {
				untouched(t, "Seal", b, func(b []byte) { frame.Seal(kind, b) })
			}
			for length := -1; length <= 9; length++ {
				for _, n := range []int{-1, 0, 1, 256, math.MaxInt} {
					untouched(t, "PutNum", b, func(b []byte) { frame.PutNum(b, n, length) })
				}
				for _, at := range []int{-1, 0, 5, many - length, many, math.MaxInt} {
					untouched(t, "Num", b, func(b []byte) { frame.Num(b, at, length) })
				}
			}
		}
	}
}

// opened answers the data of a sector alone.
func opened(b []byte) []byte {
	_, data, _ := frame.Open(b)
	return data
}

func sealedAs(kind int, data []byte) []byte {
	b, _ := frame.Seal(kind, data)
	return b
}

// askers answers the calls that answer lists, each with what it is asked of: what fits, what is refused, what is nothing.
func askers() map[string]func(b []byte) []byte {
	return map[string]func(b []byte) []byte{
		"Seal":             func(b []byte) []byte { return sealedAs(2, b) },
		"Seal of no kind":  func(b []byte) []byte { return sealedAs(0, b) },
		"Open":             opened,
		"PutNum":           func(b []byte) []byte { return frame.PutNum(b, 258, 2) },
		"PutNum of one":    func(b []byte) []byte { return frame.PutNum(b, 0, 1) },
		"PutNum of eight":  func(b []byte) []byte { return frame.PutNum(b, math.MaxInt, 8) },
		"PutNum below 0":   func(b []byte) []byte { return frame.PutNum(b, -1, 2) },
		"PutNum of size 0": func(b []byte) []byte { return frame.PutNum(b, 0, 0) },
		"PutNum of size 9": func(b []byte) []byte { return frame.PutNum(b, 0, 9) },
		"PutNum too large": func(b []byte) []byte { return frame.PutNum(b, 256, 1) },
	}
}

// spoil writes over a list and over its spare room.
func spoil(b []byte) {
	room := b[:cap(b)]
	for i := range room {
		room[i] ^= 0xA5
	}
}

// What is done with an answer, its spare room too, is seen neither in what was handed in, nor in another answer.
func TestAnswersAreNewMemory(t *testing.T) {
	for name, ask := range askers() {
		for _, list := range append(sectors(), nil, []byte{}, []byte{1}, []byte("abc"), mixed(505, 14), mixed(506, 14)) {
			for _, spare := range []int{0, 1, 8, 600} {
				room := slices.Concat(list, bytes.Repeat([]byte{0xEE}, spare))
				b, before := room[:len(list)], slices.Clone(room)
				one, other := ask(b), ask(b)
				want := slices.Clone(other)
				spoil(one)
				if !bytes.Equal(room, before) {
					t.Errorf("%s answers memory that was handed in: %s", name, brief(list))
				}
				// The other one is looked at before it is asked again, which would fill memory that is kept anew.
				if !bytes.Equal(other, want) {
					t.Errorf("%s answers memory that another answer has: %s", name, brief(list))
				}
				if again := ask(b); !bytes.Equal(again, want) {
					t.Errorf("%s answers memory that it keeps: %s", name, brief(list))
				}
				spoil(room)
				if !bytes.Equal(other, want) {
					t.Errorf("%s answers memory that can be written over behind the call: %s", name, brief(list))
				}
			}
		}
	}
}

// Two numbers are put behind one list, which has room for them: each answer has its own.
func TestTwoNumbersBehindOneList(t *testing.T) {
	for length := 1; length <= 8; length++ {
		first := frame.PutNum(make([]byte, 3, 50), 5, 1)
		one := frame.PutNum(first, 1, length)
		two := frame.PutNum(first, 2, length)
		refused := frame.PutNum(first, -1, length)
		refused = append(refused, 9, 9, 9, 9, 9, 9, 9, 9)
		if !bytes.Equal(one, judgedPut([]byte{0, 0, 0, 5}, 1, length)) || !bytes.Equal(two, judgedPut([]byte{0, 0, 0, 5}, 2, length)) || len(refused) != 12 {
			t.Errorf("%d bytes behind %s: %s and %s", length, brief(first), brief(one), brief(two))
		}
	}
}

// The data of two sectors is not one, nor two parts of one.
func TestTwoSectorsOpened(t *testing.T) {
	one, two := opened(made(1, 3, []byte("abc"))), opened(made(1, 3, []byte("xyz")))
	one = append(one, "defghijk"...)
	two = append(two, "wvutsrqp"...)
	if string(one) != "abcdefghijk" || string(two) != "xyzwvutsrqp" {
		t.Errorf("%s, %s", one, two)
	}
}

// The same calls have the same answers, whatever was asked in between.
func TestNothingIsKept(t *testing.T) {
	b := made(2, 3, []byte("abc"))
	for range 3 {
		giveSum(t, []byte("123456789"), 0xCBF43926)
		refuseSeal(t, 0, nil, api.ErrArg)
		giveSeal(t, 2, []byte("abc"), b)
		refuseSeal(t, 2, noughts(506), api.ErrLarge)
		giveSeal(t, 1, nil, made(1, 0, nil))
		refuseOpen(t, b[1:], api.ErrShort)
		giveOpen(t, b, 2, []byte("abc"))
		refuseOpen(t, noughts(size), api.ErrSum)
		giveOpen(t, made(1, 0, nil), 1, nil)
		refuseOpen(t, made(0, 0, nil), api.ErrText)
		giveSum(t, nil, 0)
		givePut(t, nil, 258, 2, []byte{1, 2})
		leave(t, []byte{1}, -1, 2)
		giveNum(t, []byte{1, 2}, 0, 2, 258)
		refuseNum(t, []byte{1, 2}, 1, 2, api.ErrShort)
		refuseNum(t, []byte{1, 2}, 0, 8, api.ErrArg)
	}
}

// Several ask at one time, of the same lists.
func TestManyAtOneTime(t *testing.T) {
	data := mixed(400, 15)
	want := made(2, 400, data)
	var group sync.WaitGroup
	for worker := range 8 {
		group.Go(func() {
			for range 200 {
				b, _ := frame.Seal(2, data)
				kind, got, e := frame.Open(want)
				n, _ := frame.Num(want, 5, 2)
				put := frame.PutNum(data[:10], worker, 3)
				if !bytes.Equal(b, want) || kind != 2 || !bytes.Equal(got, data) || e != api.OK || n != 400 || !bytes.Equal(put, judgedPut(data[:10], worker, 3)) {
					t.Error("what several ask at one time is another")
					return
				}
			}
		})
	}
	group.Wait()
}
