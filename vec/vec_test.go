package vec_test

import (
	"math"
	"slices"
	"testing"

	"thrum/api"
	"thrum/vec"
)

const (
	top = math.MaxInt64
	low = math.MinInt64
)

// answer is what a call tells: numbers (one, where it tells one), and an error.
type answer struct {
	v []int64
	e api.Errno
}

func (a answer) is(b answer) bool {
	return a.e == b.e && slices.Equal(a.v, b.v)
}

func of(v []int64, e api.Errno) answer { return answer{v: v, e: e} }

func one(n int64, e api.Errno) answer { return answer{v: []int64{n}, e: e} }

func good(v ...int64) answer { return answer{v: v, e: api.OK} }

// bad is an error where a vector is told, badOne where a number is.
func bad(e api.Errno) answer { return answer{e: e} }

func badOne(e api.Errno) answer { return answer{v: []int64{0}, e: e} }

// example is a call as it is written, what it answers, and what it is to answer.
type example struct {
	call string
	got  answer
	want answer
}

func checkAll(t *testing.T, l []example) {
	t.Helper()
	for _, x := range l {
		if !x.got.is(x.want) {
			t.Errorf("%s: got %v, not %v", x.call, brief(x.got), brief(x.want))
		}
	}
}

// brief is an answer short enough to be read.
func brief(a answer) answer {
	return answer{v: a.v[:min(len(a.v), 8)], e: a.e}
}

// l is a vector as it is written.
func l(v ...int64) []int64 { return v }

// many is n times the same number.
func many(n int, x int64) []int64 { return slices.Repeat([]int64{x}, n) }

// full is as long as a vector may be, long longer by one.
func full(x int64) []int64 { return many(api.MaxDim, x) }

func long(x int64) []int64 { return many(api.MaxDim+1, x) }

// P2.1: Check.
func TestCheck(t *testing.T) {
	for i, x := range []struct {
		v    []int64
		want api.Errno
	}{
		{nil, api.OK},
		{l(), api.OK},
		{l(0), api.OK},
		{l(top, low, -1), api.OK},
		{many(api.MaxDim-1, low), api.OK},
		{full(low), api.OK},
		{long(0), api.ErrLong},
		{many(2*api.MaxDim, 1), api.ErrLong},
	} {
		if got := vec.Check(x.v...); got != x.want {
			t.Errorf("%d: got %d, not %d", i, got, x.want)
		}
	}
}

// P2.1: Zero.
func TestZero(t *testing.T) {
	checkAll(t, []example{
		{"Zero(0)", of(vec.Zero(0)), good()},
		{"Zero(1)", of(vec.Zero(1)), good(0)},
		{"Zero(3)", of(vec.Zero(3)), good(0, 0, 0)},
		{"Zero(4096)", of(vec.Zero(4096)), good(full(0)...)},
		{"Zero(4097)", of(vec.Zero(4097)), bad(api.ErrArg)},
		{"Zero(-1)", of(vec.Zero(-1)), bad(api.ErrArg)},
		{"Zero(MaxInt)", of(vec.Zero(math.MaxInt)), bad(api.ErrArg)},
		{"Zero(MinInt)", of(vec.Zero(math.MinInt)), bad(api.ErrArg)},
	})
}

// P2.1: Same.
func TestSame(t *testing.T) {
	for i, x := range []struct {
		a, b []int64
		want bool
	}{
		{nil, nil, true},
		{nil, l(), true},
		{l(), nil, true},
		{nil, l(0), false},
		{l(0), nil, false},
		{l(1, -2, 3), l(1, -2, 3), true},
		{l(1, -2, 3), l(1, -2), false},
		{l(1, -2), l(1, -2, 3), false},
		{l(1, -2, 0), l(1, -2), false},
		{l(1, -2, 3), l(0, -2, 3), false},
		{l(1, -2, 3), l(1, 2, 3), false},
		{l(1, -2, 3), l(1, -2, 4), false},
		{l(1, 2), l(2, 1), false},
		{l(low, top), l(low, top), true},
		{l(low), l(top), false},
		{l(0), l(1 << 32), false},
		{full(7), full(7), true},
		{long(7), long(7), true},
		{full(7), long(7), false},
		{long(7), append(full(7), 8), false},
	} {
		if got := vec.Same(x.a, x.b); got != x.want {
			t.Errorf("%d: got %v", i, got)
		}
	}
}

// P2.2: Add.
func TestAdd(t *testing.T) {
	checkAll(t, []example{
		{"of none", of(vec.Add(nil, l())), good()},
		{"of one", of(vec.Add(l(2), l(-5))), good(-3)},
		{"of three", of(vec.Add(l(1, -2, 3), l(10, 20, 30))), good(11, 18, 33)},
		{"at the edges", of(vec.Add(l(top, low, low), l(0, 0, top))), good(top, low, -1)},
		{"as long as may be", of(vec.Add(full(3), full(4))), good(full(7)...)},
		{"over", of(vec.Add(l(top), l(1))), bad(api.ErrOver)},
		{"over below", of(vec.Add(l(low), l(-1))), bad(api.ErrOver)},
		{"over behind", of(vec.Add(l(1, 2, top), l(1, 2, 3))), bad(api.ErrOver)},
		{"over ahead", of(vec.Add(l(low, 2, 3), l(-1, 2, 3))), bad(api.ErrOver)},
		{"the first too long", of(vec.Add(long(1), l(1))), bad(api.ErrLong)},
		{"the second too long", of(vec.Add(l(1), long(1))), bad(api.ErrLong)},
		{"both too long", of(vec.Add(long(top), long(top))), bad(api.ErrLong)},
		{"the second shorter", of(vec.Add(l(1, 2), l(1))), bad(api.ErrShape)},
		{"the first shorter", of(vec.Add(l(1), l(1, 2))), bad(api.ErrShape)},
		{"none and one", of(vec.Add(nil, l(1))), bad(api.ErrShape)},
		{"shorter and over", of(vec.Add(l(top, 2), l(1))), bad(api.ErrShape)},
	})
}

// P2.2: Sub.
func TestSub(t *testing.T) {
	checkAll(t, []example{
		{"of none", of(vec.Sub(l(), nil)), good()},
		{"of one", of(vec.Sub(l(2), l(-5))), good(7)},
		{"of three", of(vec.Sub(l(1, -2, 3), l(10, 20, 30))), good(-9, -22, -27)},
		{"at the edges", of(vec.Sub(l(low, -1, low), l(low, low, 0))), good(0, top, low)},
		{"as long as may be", of(vec.Sub(full(3), full(4))), good(full(-1)...)},
		{"over", of(vec.Sub(l(0), l(low))), bad(api.ErrOver)},
		{"over below", of(vec.Sub(l(low), l(1))), bad(api.ErrOver)},
		{"over behind", of(vec.Sub(l(0, -2), l(1, top))), bad(api.ErrOver)},
		{"over ahead", of(vec.Sub(l(-2, 0), l(top, 1))), bad(api.ErrOver)},
		{"the first too long", of(vec.Sub(long(1), l(1))), bad(api.ErrLong)},
		{"the second too long", of(vec.Sub(l(1), long(1))), bad(api.ErrLong)},
		{"both too long", of(vec.Sub(long(low), long(top))), bad(api.ErrLong)},
		{"the second shorter", of(vec.Sub(l(1, 2), l(1))), bad(api.ErrShape)},
		{"the first shorter", of(vec.Sub(l(1), l(1, 2))), bad(api.ErrShape)},
		{"one and none", of(vec.Sub(l(1), nil)), bad(api.ErrShape)},
		{"shorter and over", of(vec.Sub(l(low, 2), l(1))), bad(api.ErrShape)},
	})
}

// P2.2: Scale.
func TestScale(t *testing.T) {
	checkAll(t, []example{
		{"of none", of(vec.Scale(nil, top, 30)), good()},
		{"by 3", of(vec.Scale(l(1, -2, 0), 3, 0)), good(3, -6, 0)},
		{"by 3, one bit behind the point", of(vec.Scale(l(1, -2, 3, -1), 3, 1)), good(1, -3, 4, -2)},
		{"by -1", of(vec.Scale(l(top, 5), -1, 0)), good(-top, -5)},
		{"by 0", of(vec.Scale(l(top, low), 0, 0)), good(0, 0)},
		{"by one, thirty bits behind the point", of(vec.Scale(l(top, low, 7), 1<<30, 30)), good(top, low, 7)},
		{"as long as may be", of(vec.Scale(full(5), 2, 0)), good(full(10)...)},
		{"over", of(vec.Scale(l(1, 2), top, 0)), bad(api.ErrOver)},
		{"over ahead", of(vec.Scale(l(low, 0), -1, 0)), bad(api.ErrOver)},
		{"more than thirty bits", of(vec.Scale(l(1), 1, 31)), bad(api.ErrArg)},
		{"fewer bits than none", of(vec.Scale(l(1), 1, -1)), bad(api.ErrArg)},
		{"too many bits of no numbers", of(vec.Scale(nil, 1, 31)), bad(api.ErrArg)},
		{"too few bits of no numbers", of(vec.Scale(l(), 1, -1)), bad(api.ErrArg)},
		{"far too many bits", of(vec.Scale(nil, 0, math.MaxInt)), bad(api.ErrArg)},
		{"far too few bits", of(vec.Scale(nil, 0, math.MinInt)), bad(api.ErrArg)},
		{"too many bits and over", of(vec.Scale(l(top), top, 31)), bad(api.ErrArg)},
		{"too long", of(vec.Scale(long(1), 1, 0)), bad(api.ErrLong)},
		{"too long and too many bits", of(vec.Scale(long(1), 1, 31)), bad(api.ErrLong)},
		{"too long and over", of(vec.Scale(long(top), top, 0)), bad(api.ErrLong)},
	})
}

// P2.2: More.
func TestMore(t *testing.T) {
	checkAll(t, []example{
		{"of none", of(vec.More(nil, 1, nil, 0)), good()},
		{"three times", of(vec.More(l(10, 20), 3, l(1, -2), 0)), good(13, 14)},
		{"three times, one bit behind the point", of(vec.More(l(10, 20, 30), 3, l(1, -2, 3), 1)), good(11, 17, 34)},
		{"once less", of(vec.More(l(10, 20), -1, l(1, 2), 0)), good(9, 18)},
		{"never", of(vec.More(l(low, top), 0, l(top, low), 0)), good(low, top)},
		{"back from the edge", of(vec.More(l(low), 1, l(top), 0)), good(-1)},
		{"as long as may be", of(vec.More(full(1), 2, full(3), 0)), good(full(7)...)},
		{"over when scaled", of(vec.More(l(-top), 2, l(top), 0)), bad(api.ErrOver)},
		{"over when added", of(vec.More(l(0, top), 1, l(0, 1), 0)), bad(api.ErrOver)},
		{"too many bits", of(vec.More(l(1), 1, l(1), 31)), bad(api.ErrArg)},
		{"too many bits of no numbers", of(vec.More(nil, 1, nil, 31)), bad(api.ErrArg)},
		{"too few bits of no numbers", of(vec.More(nil, 1, nil, -1)), bad(api.ErrArg)},
		{"what is added to too long", of(vec.More(long(1), 1, l(1), 0)), bad(api.ErrLong)},
		{"what is added too long", of(vec.More(l(1), 1, long(1), 0)), bad(api.ErrLong)},
		{"not as long", of(vec.More(l(1), 1, l(1, 2), 0)), bad(api.ErrShape)},
		{"not as long, and over when added", of(vec.More(l(top, 1), 1, l(1), 0)), bad(api.ErrShape)},
		{"too many bits, and what is added too long", of(vec.More(l(1), 1, long(1), 31)), bad(api.ErrLong)},
		{"too many bits, and what is added to too long", of(vec.More(long(1), 1, l(1), 31)), bad(api.ErrArg)},
		{"too many bits, and not as long", of(vec.More(l(1), 1, nil, 31)), bad(api.ErrArg)},
		{"over when scaled, and what is added to too long", of(vec.More(long(1), 2, l(top), 0)), bad(api.ErrOver)},
		{"over when scaled, and not as long", of(vec.More(l(1), 2, l(1, top), 0)), bad(api.ErrOver)},
	})
}

// P2.3: Dot.
func TestDot(t *testing.T) {
	checkAll(t, []example{
		{"of none", one(vec.Dot(nil, l(), 0)), good(0)},
		{"of two", one(vec.Dot(l(1, 2), l(3, 4), 0)), good(11)},
		{"of three", one(vec.Dot(l(1, -2, 3), l(10, 20, 30), 0)), good(60)},
		{"each product down by itself", one(vec.Dot(l(1, 1), l(1, 1), 1)), good(0)},
		{"each product below 0 down by itself", one(vec.Dot(l(-1, -1), l(1, 1), 1)), good(-2)},
		{"thirty bits", one(vec.Dot(l(1<<40, 3), l(1<<40, 1<<30), 30)), good(1<<50 + 3)},
		{"as long as may be", one(vec.Dot(full(2), full(3), 0)), good(6 * api.MaxDim)},
		{"up to the edges", one(vec.Dot(l(top, low, 1), l(1, 1, 1), 0)), good(0)},
		{"back ahead of the edge", one(vec.Dot(l(-1, top, 1), l(1, 1, 1), 0)), good(top)},
		{"over on the way", one(vec.Dot(l(top, 1, -1), l(1, 1, 1), 0)), badOne(api.ErrOver)},
		{"over below on the way", one(vec.Dot(l(low, -1, 1), l(1, 1, 1), 0)), badOne(api.ErrOver)},
		{"a product over", one(vec.Dot(l(1, top), l(1, 2), 0)), badOne(api.ErrOver)},
		{"a product over that the sum would bring back", one(vec.Dot(l(low, low), l(1, -1), 0)), badOne(api.ErrOver)},
		{"the first too long", one(vec.Dot(long(1), l(1), 0)), badOne(api.ErrLong)},
		{"the second too long", one(vec.Dot(l(1), long(1), 0)), badOne(api.ErrLong)},
		{"not as long", one(vec.Dot(l(1, 2), l(1), 0)), badOne(api.ErrShape)},
		{"not as long, none", one(vec.Dot(nil, l(1), 0)), badOne(api.ErrShape)},
		{"too many bits", one(vec.Dot(l(1), l(1), 31)), badOne(api.ErrArg)},
		{"too few bits", one(vec.Dot(l(1), l(1), -1)), badOne(api.ErrArg)},
		{"too many bits of no numbers", one(vec.Dot(nil, nil, 31)), badOne(api.ErrArg)},
		{"too few bits of no numbers", one(vec.Dot(nil, nil, math.MinInt)), badOne(api.ErrArg)},
		{"too many bits, and over", one(vec.Dot(l(top), l(top), 31)), badOne(api.ErrArg)},
		{"too many bits, and too long", one(vec.Dot(long(1), long(1), 31)), badOne(api.ErrLong)},
		{"too many bits, and not as long", one(vec.Dot(l(1), nil, 31)), badOne(api.ErrShape)},
		{"not as long, and over", one(vec.Dot(l(top, 1), l(2), 0)), badOne(api.ErrShape)},
	})
}

// P2.3: Size.
func TestSize(t *testing.T) {
	checkAll(t, []example{
		{"of none", one(vec.Size()), good(0)},
		{"of two", one(vec.Size(-3, 4)), good(7)},
		{"of three", one(vec.Size(1, -2, 3)), good(6)},
		{"of zeros", one(vec.Size(0, 0)), good(0)},
		{"of the greatest", one(vec.Size(top)), good(top)},
		{"of its opposite", one(vec.Size(-top, 0)), good(top)},
		{"as long as may be", one(vec.Size(full(-2)...)), good(2 * api.MaxDim)},
		{"over", one(vec.Size(top, -1)), badOne(api.ErrOver)},
		{"over ahead", one(vec.Size(-1, -top, 0)), badOne(api.ErrOver)},
		{"of the least", one(vec.Size(low)), badOne(api.ErrOver)},
		{"of the least behind", one(vec.Size(1, low)), badOne(api.ErrOver)},
		{"too long", one(vec.Size(long(0)...)), badOne(api.ErrLong)},
		{"too long and over", one(vec.Size(long(low)...)), badOne(api.ErrLong)},
	})
}

// P2.3: Most.
func TestMost(t *testing.T) {
	checkAll(t, []example{
		{"of none", one(vec.Most()), good(0)},
		{"of zeros", one(vec.Most(0, 0)), good(0)},
		{"ahead, below 0", one(vec.Most(-7, 3)), good(7)},
		{"behind, below 0", one(vec.Most(3, -7)), good(7)},
		{"in the middle", one(vec.Most(3, 9, -7)), good(9)},
		{"of the greatest", one(vec.Most(1, top, -top)), good(top)},
		{"of one more than the least", one(vec.Most(low + 1)), good(top)},
		{"of the same", one(vec.Most(5, -5)), good(5)},
		{"as long as may be", one(vec.Most(append(many(api.MaxDim-1, -4), 6)...)), good(6)},
		{"of the least", one(vec.Most(low)), badOne(api.ErrOver)},
		{"of the least ahead", one(vec.Most(low, 3)), badOne(api.ErrOver)},
		{"of the least behind", one(vec.Most(3, top, low)), badOne(api.ErrOver)},
		{"too long", one(vec.Most(long(1)...)), badOne(api.ErrLong)},
		{"too long and over", one(vec.Most(long(low)...)), badOne(api.ErrLong)},
	})
}

// P2.3: Clip.
func TestClip(t *testing.T) {
	checkAll(t, []example{
		{"of none", of(vec.Clip(nil, 0)), good()},
		{"of five", of(vec.Clip(l(10, 20, -15, -16, 15), 15)), good(10, 15, -15, -15, 15)},
		{"to 0", of(vec.Clip(l(5, -5, 0), 0)), good(0, 0, 0)},
		{"to the greatest", of(vec.Clip(l(low, low+1, top), top)), good(-top, -top, top)},
		{"as long as may be", of(vec.Clip(full(-9), 4)), good(full(-4)...)},
		{"to less than 0", of(vec.Clip(l(1), -1)), bad(api.ErrArg)},
		{"to the least", of(vec.Clip(l(1), low)), bad(api.ErrArg)},
		{"of none to less than 0", of(vec.Clip(nil, -1)), bad(api.ErrArg)},
		{"of none to the least", of(vec.Clip(l(), low)), bad(api.ErrArg)},
		{"too long", of(vec.Clip(long(1), 1)), bad(api.ErrLong)},
		{"too long, and to less than 0", of(vec.Clip(long(1), -1)), bad(api.ErrLong)},
	})
}

// P2.4: Sum.
func TestSum(t *testing.T) {
	checkAll(t, []example{
		{"of none", of(vec.Sum()), good()},
		{"of one without numbers", of(vec.Sum(nil)), good()},
		{"of two without numbers", of(vec.Sum(nil, l())), good()},
		{"of one", of(vec.Sum(l(1, -2))), good(1, -2)},
		{"of one at the edges", of(vec.Sum(l(low, top))), good(low, top)},
		{"of two", of(vec.Sum(l(1, -2), l(10, 20))), good(11, 18)},
		{"of three", of(vec.Sum(l(1, -2, 3), l(10, 20, 30), l(1, -2, 3))), good(12, 16, 36)},
		{"of the same four times", of(vec.Sum(l(3), l(3), l(3), l(3))), good(12)},
		{"as long as may be", of(vec.Sum(full(1), full(2), full(3))), good(full(6)...)},
		{"of one as long as may be", of(vec.Sum(full(top))), good(full(top)...)},
		{"back ahead of the edge", of(vec.Sum(l(top), l(-1), l(1))), good(top)},
		{"over on the way", of(vec.Sum(l(top), l(1), l(-1))), bad(api.ErrOver)},
		{"over at the end", of(vec.Sum(l(0, low), l(0, 0), l(0, -1))), bad(api.ErrOver)},
		{"of one too long", of(vec.Sum(long(1))), bad(api.ErrLong)},
		{"the first too long", of(vec.Sum(long(1), l(1))), bad(api.ErrLong)},
		{"the second too long", of(vec.Sum(l(1), long(1))), bad(api.ErrLong)},
		{"all too long", of(vec.Sum(long(top), long(top))), bad(api.ErrLong)},
		{"the second not as long", of(vec.Sum(l(1, 2), l(1))), bad(api.ErrShape)},
		{"the third not as long", of(vec.Sum(l(1, 2), l(1, 2), l(1, 2, 3))), bad(api.ErrShape)},
		{"none, and one", of(vec.Sum(nil, l(1))), bad(api.ErrShape)},
		{"not as long, then too long", of(vec.Sum(l(1, 2), l(1), long(1))), bad(api.ErrShape)},
		{"too long, then not as long", of(vec.Sum(l(1, 2), long(1), l(1))), bad(api.ErrLong)},
		{"over, then too long", of(vec.Sum(l(top), l(1), long(1))), bad(api.ErrOver)},
		{"over, then not as long", of(vec.Sum(l(low), l(-1), nil)), bad(api.ErrOver)},
		{"not as long, then over", of(vec.Sum(l(top), nil, l(1))), bad(api.ErrShape)},
	})
}
