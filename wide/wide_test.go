package wide

import (
	"math"
	"math/big"
	"slices"
	"testing"

	"merestone/api"
)

// The calls as the chapter lists them: this does not compile if one is another.
var (
	_ func(int) api.Int                           = Of
	_ func(int, int) api.Int                      = Mul
	_ func(api.Int, api.Int) (api.Int, api.Errno) = Add
	_ func(api.Int, api.Int) (api.Int, api.Errno) = Sub
	_ func(...api.Int) (api.Int, api.Errno)       = Total
	_ func(api.Int) int                           = Sign
	_ func(api.Int, api.Int) int                  = Compare
	_ func(api.Int) string                        = Text
)

var (
	least    = api.Int{Hi: math.MinInt64}
	greatest = api.Int{Hi: math.MaxInt64, Lo: math.MaxUint64}
	one      = api.Int{Lo: 1}
	minusOne = api.Int{Hi: -1, Lo: math.MaxUint64}
)

// ints are machine numbers at and around the places where words end.
func ints() []int {
	return []int{0, 1, -1, 2, -2, 3, -3, 9, 10, -10, 12345, -12345,
		math.MaxInt32, math.MinInt32, math.MaxUint32, math.MaxUint32 + 1, -math.MaxUint32 - 1,
		1 << 62, -1 << 62, math.MaxInt64 - 1, math.MaxInt64, math.MinInt64 + 1, math.MinInt64}
}

// wides are all ints, and wide numbers at and around the places where words and decimal chunks end.
func wides() []api.Int {
	var list []api.Int
	for _, n := range ints() {
		list = append(list, toWide(big.NewInt(int64(n))))
	}
	for _, middle := range []*big.Int{power(2, 63), power(2, 64), power(2, 65), power(2, 126), power(10, 18), power(10, 19), power(10, 20), power(10, 37), power(10, 38), new(big.Int).Mul(big.NewInt(17), power(10, 37))} {
		for step := int64(-1); step <= 1; step++ {
			n := new(big.Int).Add(middle, big.NewInt(step))
			list = append(list, toWide(n), toWide(new(big.Int).Neg(n)))
		}
	}
	for _, hi := range []int64{math.MinInt64, math.MinInt64 + 1, -2, -1, 0, 1, math.MaxInt64 - 1, math.MaxInt64} {
		for _, lo := range []uint64{0, 1, 1<<63 - 1, 1 << 63, math.MaxUint64 - 1, math.MaxUint64} {
			list = append(list, api.Int{Hi: hi, Lo: lo})
		}
	}
	return list
}

func power(base, exponent int64) *big.Int {
	return new(big.Int).Exp(big.NewInt(base), big.NewInt(exponent), nil)
}

func toBig(a api.Int) *big.Int {
	n := new(big.Int).Mul(big.NewInt(a.Hi), power(2, 64))
	return n.Add(n, new(big.Int).SetUint64(a.Lo))
}

// toWide cuts off what is beyond 128 bits.
func toWide(n *big.Int) api.Int {
	word := new(big.Int).Sub(power(2, 64), big.NewInt(1))
	lo := new(big.Int).And(n, word)
	hi := new(big.Int).And(new(big.Int).Rsh(n, 64), word)
	return api.Int{Hi: int64(hi.Uint64()), Lo: lo.Uint64()}
}

// expected is what the chapter asks for where the true result is n.
func expected(n *big.Int) (api.Int, api.Errno) {
	if n.Cmp(toBig(least)) < 0 || n.Cmp(toBig(greatest)) > 0 {
		return api.Int{}, api.ErrRange
	}
	return toWide(n), api.OK
}

func TestHelpersGoThereAndBack(t *testing.T) {
	for _, a := range wides() {
		if b, e := expected(toBig(a)); b != a || e != api.OK {
			t.Fatalf("%v came back as %v, %d", a, b, e)
		}
	}
}

// P1.1

func TestOf(t *testing.T) {
	written := map[int]api.Int{
		0: {}, 1: {Lo: 1}, -1: {Hi: -1, Lo: math.MaxUint64}, 5: {Lo: 5}, -5: {Hi: -1, Lo: math.MaxUint64 - 4},
		math.MaxInt64: {Lo: math.MaxInt64}, math.MinInt64: {Hi: -1, Lo: 1 << 63},
	}
	for n, want := range written {
		if got := Of(n); got != want {
			t.Errorf("Of(%d) is %v, want %v", n, got, want)
		}
	}
	for _, n := range ints() {
		if got, want := Of(n), toWide(big.NewInt(int64(n))); got != want {
			t.Errorf("Of(%d) is %v, want %v", n, got, want)
		}
	}
}

func TestMulExamples(t *testing.T) {
	for _, c := range []struct {
		a, b int
		want api.Int
	}{
		{math.MinInt64, math.MinInt64, api.Int{Hi: 1 << 62}},
		{-1, 1, api.Int{Hi: -1, Lo: math.MaxUint64}},
		{math.MinInt64, -1, api.Int{Lo: 1 << 63}},
		{math.MinInt64, 1, api.Int{Hi: -1, Lo: 1 << 63}},
		{math.MaxInt64, math.MaxInt64, api.Int{Hi: 1<<62 - 1, Lo: 1}},
		{1 << 32, 1 << 32, api.Int{Hi: 1}},
		{6, 7, api.Int{Lo: 42}},
		{0, math.MinInt64, api.Int{}},
	} {
		if got := Mul(c.a, c.b); got != c.want {
			t.Errorf("Mul(%d, %d) is %v, want %v", c.a, c.b, got, c.want)
		}
	}
}

func TestMulOfAllPairs(t *testing.T) {
	for _, a := range ints() {
		for _, b := range ints() {
			want := toWide(new(big.Int).Mul(big.NewInt(int64(a)), big.NewInt(int64(b))))
			if got := Mul(a, b); got != want {
				t.Errorf("Mul(%d, %d) is %v, want %v", a, b, got, want)
			}
		}
	}
}

func TestAddAtTheEnds(t *testing.T) {
	for _, c := range []struct {
		a, b, want api.Int
		e          api.Errno
	}{
		{greatest, one, api.Int{}, api.ErrRange},
		{one, greatest, api.Int{}, api.ErrRange},
		{greatest, greatest, api.Int{}, api.ErrRange},
		{least, minusOne, api.Int{}, api.ErrRange},
		{minusOne, least, api.Int{}, api.ErrRange},
		{least, least, api.Int{}, api.ErrRange},
		{greatest, api.Int{}, greatest, api.OK},
		{api.Int{}, least, least, api.OK},
		{greatest, least, minusOne, api.OK},
		{api.Int{Hi: math.MaxInt64, Lo: math.MaxUint64 - 1}, one, greatest, api.OK},
		{api.Int{Hi: math.MinInt64, Lo: 1}, minusOne, least, api.OK},
		{api.Int{Hi: 1 << 62}, api.Int{Hi: 1 << 62}, api.Int{}, api.ErrRange},
		{api.Int{Hi: -1 << 62}, api.Int{Hi: -1 << 62}, least, api.OK},
		{api.Int{Lo: math.MaxUint64}, one, api.Int{Hi: 1}, api.OK},
	} {
		if got, e := Add(c.a, c.b); got != c.want || e != c.e {
			t.Errorf("Add(%v, %v) is %v, %d, want %v, %d", c.a, c.b, got, e, c.want, c.e)
		}
	}
}

func TestSubAtTheEnds(t *testing.T) {
	for _, c := range []struct {
		a, b, want api.Int
		e          api.Errno
	}{
		{api.Int{Lo: 3}, api.Int{Lo: 5}, api.Int{Hi: -1, Lo: math.MaxUint64 - 1}, api.OK},
		{least, one, api.Int{}, api.ErrRange},
		{greatest, minusOne, api.Int{}, api.ErrRange},
		{api.Int{}, least, api.Int{}, api.ErrRange},
		{one, least, api.Int{}, api.ErrRange},
		{greatest, least, api.Int{}, api.ErrRange},
		{least, greatest, api.Int{}, api.ErrRange},
		{minusOne, least, greatest, api.OK},
		{minusOne, greatest, least, api.OK},
		{least, least, api.Int{}, api.OK},
		{greatest, greatest, api.Int{}, api.OK},
		{api.Int{}, greatest, api.Int{Hi: math.MinInt64, Lo: 1}, api.OK},
		{least, api.Int{}, least, api.OK},
		{api.Int{Hi: 1}, one, api.Int{Lo: math.MaxUint64}, api.OK},
	} {
		if got, e := Sub(c.a, c.b); got != c.want || e != c.e {
			t.Errorf("Sub(%v, %v) is %v, %d, want %v, %d", c.a, c.b, got, e, c.want, c.e)
		}
	}
}

func TestAddAndSubOfAllPairs(t *testing.T) {
	for _, a := range wides() {
		for _, b := range wides() {
			want, wantE := expected(new(big.Int).Add(toBig(a), toBig(b)))
			if got, e := Add(a, b); got != want || e != wantE {
				t.Errorf("Add(%v, %v) is %v, %d, want %v, %d", a, b, got, e, want, wantE)
			}
			want, wantE = expected(new(big.Int).Sub(toBig(a), toBig(b)))
			if got, e := Sub(a, b); got != want || e != wantE {
				t.Errorf("Sub(%v, %v) is %v, %d, want %v, %d", a, b, got, e, want, wantE)
			}
		}
	}
}

func TestTotalOfNone(t *testing.T) {
	for _, list := range [][]api.Int{nil, {}} {
		if got, e := Total(list...); got != (api.Int{}) || e != api.OK {
			t.Errorf("Total of nothing is %v, %d", got, e)
		}
	}
	if got, e := Total(); got != (api.Int{}) || e != api.OK {
		t.Errorf("Total() is %v, %d", got, e)
	}
}

func TestTotalOfOne(t *testing.T) {
	for _, a := range wides() {
		if got, e := Total(a); got != a || e != api.OK {
			t.Errorf("Total(%v) is %v, %d", a, got, e)
		}
	}
}

func TestTotalGoesFromTheLeft(t *testing.T) {
	for _, c := range []struct {
		list []api.Int
		want api.Int
		e    api.Errno
	}{
		{[]api.Int{{Lo: 1}, {Hi: -1, Lo: math.MaxUint64 - 3}, {Lo: 9}}, api.Int{Lo: 6}, api.OK},
		{[]api.Int{greatest, one, minusOne}, api.Int{}, api.ErrRange},
		{[]api.Int{greatest, minusOne, one}, greatest, api.OK},
		{[]api.Int{one, minusOne, greatest}, greatest, api.OK},
		{[]api.Int{minusOne, least, one}, api.Int{}, api.ErrRange},
		{[]api.Int{minusOne, one, least}, least, api.OK},
		{[]api.Int{greatest, least, one}, api.Int{}, api.OK},
		{[]api.Int{greatest, least, one, least, minusOne}, api.Int{}, api.ErrRange},
		{[]api.Int{greatest, greatest, least, least}, api.Int{}, api.ErrRange},
		{[]api.Int{greatest, least, greatest, least}, api.Int{Hi: -1, Lo: math.MaxUint64 - 1}, api.OK},
	} {
		if got, e := Total(c.list...); got != c.want || e != c.e {
			t.Errorf("Total(%v) is %v, %d, want %v, %d", c.list, got, e, c.want, c.e)
		}
	}
}

// stepwise is the chapter's sentence on Total in big numbers.
func stepwise(list ...api.Int) (api.Int, api.Errno) {
	sum := new(big.Int)
	for _, a := range list {
		sum.Add(sum, toBig(a))
		if _, e := expected(sum); e != api.OK {
			return api.Int{}, e
		}
	}
	return expected(sum)
}

func TestTotalOfAllTriples(t *testing.T) {
	few := []api.Int{{}, one, minusOne, {Lo: math.MaxUint64}, {Hi: 1}, {Hi: -1}, {Hi: 1 << 62}, {Hi: -1 << 62}, {Hi: math.MaxInt64}, {Hi: math.MinInt64, Lo: 1}, least, greatest}
	for _, a := range few {
		for _, b := range few {
			for _, c := range few {
				want, wantE := stepwise(a, b, c)
				if got, e := Total(a, b, c); got != want || e != wantE {
					t.Errorf("Total(%v, %v, %v) is %v, %d, want %v, %d", a, b, c, got, e, want, wantE)
				}
			}
		}
	}
}

func TestTotalOfMany(t *testing.T) {
	// 2^17 times 2^110 - 1 is 2^127 - 2^17, so that 2^17 - 1 more just fit.
	part := api.Int{Hi: 1<<46 - 1, Lo: math.MaxUint64}
	list := slices.Repeat([]api.Int{part}, 1<<17)
	list = append(list, api.Int{Lo: 1<<17 - 1})
	if got, e := Total(list...); got != greatest || e != api.OK {
		t.Errorf("Total is %v, %d, want the greatest number", got, e)
	}
	list = append(list, one)
	if got, e := Total(list...); got != (api.Int{}) || e != api.ErrRange {
		t.Errorf("Total is %v, %d, want none", got, e)
	}
}

func TestTotalLeavesItsListAlone(t *testing.T) {
	room := []api.Int{one, greatest, minusOne, least, {Lo: 7}, {Lo: 8}}
	before := slices.Clone(room)
	for n := range room {
		Total(room[:n]...)
		if !slices.Equal(room, before) {
			t.Fatalf("Total of the first %d changed the list to %v", n, room)
		}
	}
}

// P1.2

func TestSign(t *testing.T) {
	written := map[api.Int]int{
		{}: 0, one: 1, minusOne: -1, least: -1, greatest: 1, {Hi: -1}: -1, {Hi: 1}: 1, {Lo: 1 << 63}: 1, {Lo: math.MaxUint64}: 1,
	}
	for a, want := range written {
		if got := Sign(a); got != want {
			t.Errorf("Sign(%v) is %d, want %d", a, got, want)
		}
	}
	for _, a := range wides() {
		if got, want := Sign(a), toBig(a).Sign(); got != want {
			t.Errorf("Sign(%v) is %d, want %d", a, got, want)
		}
	}
}

func TestCompare(t *testing.T) {
	for _, c := range []struct {
		a, b api.Int
		want int
	}{
		{minusOne, api.Int{}, -1},
		{api.Int{}, minusOne, 1},
		{least, greatest, -1},
		{greatest, least, 1},
		{least, least, 0},
		{greatest, greatest, 0},
		{api.Int{Lo: 1 << 63}, one, 1},
		{api.Int{Hi: -1, Lo: 1 << 63}, minusOne, -1},
		{api.Int{Lo: math.MaxUint64}, api.Int{Hi: 1}, -1},
		{api.Int{Hi: 5, Lo: 9}, api.Int{Hi: 5, Lo: 9}, 0},
	} {
		if got := Compare(c.a, c.b); got != c.want {
			t.Errorf("Compare(%v, %v) is %d, want %d", c.a, c.b, got, c.want)
		}
	}
}

func TestCompareOfAllPairs(t *testing.T) {
	for _, a := range wides() {
		for _, b := range wides() {
			if got, want := Compare(a, b), toBig(a).Cmp(toBig(b)); got != want {
				t.Errorf("Compare(%v, %v) is %d, want %d", a, b, got, want)
			}
		}
	}
}

func TestText(t *testing.T) {
	written := map[api.Int]string{
		{}:                         "0",
		one:                        "1",
		Mul(-1, 1):                 "-1",
		{Lo: 10}:                   "10",
		{Lo: math.MaxUint64}:       "18446744073709551615",
		{Hi: 1}:                    "18446744073709551616",
		{Hi: -1}:                   "-18446744073709551616",
		{Lo: 9999999999999999999}:  "9999999999999999999",
		{Lo: 10000000000000000000}: "10000000000000000000",
		{Lo: 10000000000000000305}: "10000000000000000305",
		{Hi: -1, Lo: 1<<63 + 1}:    "-9223372036854775807",
		{Hi: math.MinInt64, Lo: 1}: "-170141183460469231731687303715884105727",
		least:                      "-170141183460469231731687303715884105728",
		greatest:                   "170141183460469231731687303715884105727",
	}
	for a, want := range written {
		if got := Text(a); got != want {
			t.Errorf("Text(%v) is %s, want %s", a, got, want)
		}
	}
	for _, a := range wides() {
		if got, want := Text(a), toBig(a).String(); got != want {
			t.Errorf("Text(%v) is %s, want %s", a, got, want)
		}
	}
}
