package topk_test

import (
	"math"
	"slices"
	"testing"

	"thrum/api"
	"thrum/topk"
)

const (
	most = math.MaxInt64
	low  = math.MinInt64
)

// answer is what a call tells: places, and an error.
type answer struct {
	l []int
	e api.Errno
}

func (a answer) is(b answer) bool { return a.e == b.e && slices.Equal(a.l, b.l) }

// brief is an answer whose list is cut, so that a long one can be told.
func (a answer) brief() answer { return answer{l: a.l[:min(len(a.l), 20)], e: a.e} }

func of(l []int, e api.Errno) answer { return answer{l: l, e: e} }

func good(l ...int) answer { return answer{l: l} }

// bad is an error where places are told: there are none.
func bad(e api.Errno) answer { return answer{e: e} }

// example is a call as it is written, what it answers, and what it is to answer.
type example struct {
	call string
	got  answer
	want answer
}

func checkAll(t *testing.T, l []example) {
	t.Helper()
	for _, x := range l {
		if !x.got.is(x.want) {
			t.Errorf("%s: got %v, not %v", x.call, x.got.brief(), x.want.brief())
		}
	}
}

// list and vector are places and numbers as they are written; many is so many numbers, that go up and down.
func list(l ...int) []int { return l }

func vector(v ...int64) []int64 { return v }

func many(n int) []int64 {
	v := make([]int64, n)
	for i := range v {
		v[i] = int64(i)*2654435761%1009 - 504
	}
	return v
}

// ordered is numbers, and their places, those that are ahead first, as another program works it out.
type ordered struct {
	v    []int64
	want []int
}

func allOrdered() []ordered {
	return []ordered{
		{nil, nil},
		{vector(0), list(0)},
		{vector(low), list(0)},
		{vector(3, -5, 5, 1), list(1, 2, 0, 3)},
		{vector(0, 0, 0), list(0, 1, 2)},
		{vector(-4, -4, -4, -4), list(0, 1, 2, 3)},
		{vector(low, most, -most, most, low+1, low), list(0, 5, 1, 2, 3, 4)},
		{vector(most, low), list(1, 0)},
		{vector(0, low, 1), list(1, 2, 0)},
		{vector(1, -1, 2, -2, 1, -1, 2, -2), list(2, 3, 6, 7, 0, 1, 4, 5)},
		{vector(most-1, low, most, 1<<62, -(1 << 62), 1<<62+1, 1-(1<<62)), list(1, 2, 0, 5, 3, 4, 6)},
		{vector(-9, 8, -7, 6, -5, 4, -3, 2, -1, 0), list(0, 1, 2, 3, 4, 5, 6, 7, 8, 9)},
		{vector(0, -1, 2, -3, 4, -5, 6, -7, 8, -9), list(9, 8, 7, 6, 5, 4, 3, 2, 1, 0)},
		{vector(5, -3, 0, -8, 8, 2, -5, 3, 1, -1, 13, -13, 0), list(10, 11, 3, 4, 0, 6, 1, 7, 5, 8, 9, 2, 12)},
		{many(60), list(
			0, 29, 43, 58, 14, 15, 57, 44, 28, 1, 30, 42, 59, 13, 16, 56, 45, 27, 2, 31, 41, 12, 17, 55, 46, 26, 3, 32, 40, 11,
			18, 54, 47, 25, 4, 33, 39, 10, 19, 53, 48, 24, 5, 34, 38, 9, 20, 52, 49, 23, 6, 35, 37, 8, 21, 51, 50, 22, 7, 36)},
	}
}

// P9.1: Order.
func TestOrder(t *testing.T) {
	for _, x := range allOrdered() {
		if got := of(topk.Order(x.v...)); !got.is(good(x.want...)) {
			t.Errorf("%v: got %v, not %v", x.v, got, x.want)
		}
	}
}

// P9.1: Pick, of as many as there are, and of each number of them.
func TestPickIsTheFirstOfTheOrderRising(t *testing.T) {
	for _, x := range allOrdered() {
		for k := range len(x.v) + 1 {
			want := slices.Sorted(slices.Values(x.want[:k]))
			if got := of(topk.Pick(k, x.v...)); !got.is(good(want...)) {
				t.Errorf("%d of %v: got %v, not %v", k, x.v, got, want)
			}
		}
	}
}

// P9.1: Pick.
func TestPick(t *testing.T) {
	checkAll(t, []example{
		{"2 of 4", of(topk.Pick(2, 3, -5, 5, 1)), good(1, 2)},
		{"1 of 4", of(topk.Pick(1, 3, -5, 5, 1)), good(1)},
		{"3 of 4", of(topk.Pick(3, 3, -5, 5, 1)), good(0, 1, 2)},
		{"all of 4", of(topk.Pick(4, 3, -5, 5, 1)), good(0, 1, 2, 3)},
		{"none of 4", of(topk.Pick(0, 3, -5, 5, 1)), good()},
		{"none of none", of(topk.Pick(0)), good()},
		{"none of 1", of(topk.Pick(0, 7)), good()},
		{"1 of 1", of(topk.Pick(1, 0)), good(0)},
		{"1 of one size, of both signs", of(topk.Pick(1, 5, -5)), good(0)},
		{"1 of one size, of both signs, turned", of(topk.Pick(1, -5, 5)), good(0)},
		{"1 of the least, and the greatest", of(topk.Pick(1, most, low)), good(1)},
		{"1 of the greatest, and what is below 0 of its size", of(topk.Pick(1, -most, most)), good(0)},
		{"2 with the least among small ones", of(topk.Pick(2, 0, low, 0, 1)), good(1, 3)},
		{"7 of 60", of(topk.Pick(7, many(60)...)), good(0, 14, 15, 29, 43, 57, 58)},
		{"20 of 60", of(topk.Pick(20, many(60)...)), good(0, 1, 2, 13, 14, 15, 16, 27, 28, 29, 30, 31, 42, 43, 44, 45, 56, 57, 58, 59)},
		{"12 of the most", of(topk.Pick(12, many(4096)...)), good(0, 173, 418, 591, 1009, 1182, 1600, 2018, 2609, 3027, 3618, 4036)},
		{"none of the most", of(topk.Pick(0, many(4096)...)), good()},
	})
}

// weight is what a list's numbers come to, each one times its place from 1 on.
func weight(l []int) int {
	sum := 0
	for i, n := range l {
		sum += n * (i + 1)
	}
	return sum
}

// P9.1: of as many numbers as there may be.
func TestOfTheMost(t *testing.T) {
	v := many(4096)
	if l, e := topk.Order(v...); len(l) != 4096 || weight(l) != 17187229899 || e != api.OK {
		t.Errorf("got %d, %d, %d", len(l), weight(l), e)
	}
	for k, want := range map[int]int{1: 0, 2: 1182, 100: 13509332, 1000: 1366311497, 2048: 5728577536, 4000: 21839374647} {
		if l, e := topk.Pick(k, v...); len(l) != k || weight(l) != want || e != api.OK {
			t.Errorf("%d: got %d, %d, %d", k, len(l), weight(l), e)
		}
	}
	if l, e := topk.Pick(4095, v...); len(l) != 4095 || slices.Contains(l, 3827) || e != api.OK {
		t.Errorf("all but one: got %d, %d", len(l), e)
	}
	if l, e := topk.Pick(4096, v...); len(l) != 4096 || l[4095] != 4095 || e != api.OK {
		t.Errorf("all: got %d, %d", len(l), e)
	}
}

// P9.1: Order's error, and Pick's, in their order.
func TestOrderAndPickErrors(t *testing.T) {
	checkAll(t, []example{
		{"Order, one too many", of(topk.Order(many(4097)...)), bad(api.ErrLong)},
		{"Order, far too many", of(topk.Order(many(9000)...)), bad(api.ErrLong)},
		{"Pick, one too many", of(topk.Pick(3, many(4097)...)), bad(api.ErrLong)},
		{"Pick, none of one too many", of(topk.Pick(0, many(4097)...)), bad(api.ErrLong)},
		{"Pick, all of one too many", of(topk.Pick(4097, many(4097)...)), bad(api.ErrLong)},
		{"Pick, fewer than none of too many", of(topk.Pick(-1, many(4097)...)), bad(api.ErrLong)},
		{"Pick, more of too many than there are", of(topk.Pick(4098, many(4097)...)), bad(api.ErrLong)},
		{"Pick, fewer than none", of(topk.Pick(-1, 3, -5, 5, 1)), bad(api.ErrArg)},
		{"Pick, fewer than none of none", of(topk.Pick(-1)), bad(api.ErrArg)},
		{"Pick, the fewest", of(topk.Pick(math.MinInt, 3, -5, 5, 1)), bad(api.ErrArg)},
		{"Pick, one more than there are", of(topk.Pick(5, 3, -5, 5, 1)), bad(api.ErrArg)},
		{"Pick, 1 of none", of(topk.Pick(1)), bad(api.ErrArg)},
		{"Pick, the most", of(topk.Pick(math.MaxInt, 3, -5, 5, 1)), bad(api.ErrArg)},
		{"Pick, one more than the most that there may be", of(topk.Pick(4097, many(4096)...)), bad(api.ErrArg)},
		{"Pick, fewer than none of the most", of(topk.Pick(-1, many(4096)...)), bad(api.ErrArg)},
	})
}
