package draw_test

import (
	"math"
	"testing"

	"thrum/api"
	"thrum/draw"
)

const (
	most = math.MaxUint64
	top  = math.MaxInt
	low  = math.MinInt
)

// answer is what a call tells: a thing, and an error.
type answer[T comparable] struct {
	x T
	e api.Errno
}

func of[T comparable](x T, e api.Errno) answer[T] { return answer[T]{x: x, e: e} }

func good[T comparable](x T) answer[T] { return answer[T]{x: x, e: api.OK} }

// bad is an error where a thing is told: that is zero.
func bad[T comparable](e api.Errno) answer[T] { return answer[T]{e: e} }

// example is a call as it is written, what it answers, and what it is to answer.
type example[T comparable] struct {
	call string
	got  answer[T]
	want answer[T]
}

func checkAll[T comparable](t *testing.T, l []example[T]) {
	t.Helper()
	for _, x := range l {
		if x.got != x.want {
			t.Errorf("%s: got %v, not %v", x.call, x.got, x.want)
		}
	}
}

// list is numbers as they are written.
func list(n ...int) []int { return n }

// drawn is what is drawn of a seed for numbers, as another program works it out.
type drawn struct {
	seed uint64
	n    []int
	want uint64
}

func allDrawn() []drawn {
	return []drawn{
		{0, nil, 0},
		{1, nil, 0xbf58476da3bca2d4},
		{2, nil, 0x7eb08eda477945a8},
		{1 << 63, nil, 0x8000000080000000},
		{most, nil, 0x40a7b892a3bca2d5},
		{0, list(0), 0},
		{0, list(0, 0), 0},
		{0, list(1), 0xca009717f87d8879},
		{1, list(0), 0xca009717f87d8879},
		{1, list(1), 0},
		{0, list(-1), 0xa68094cce9e291eb},
		{most, list(-1), 0},
		{most, list(0), 0xa68094cce9e291eb},
		{3, list(5), 0x7be2226c616fcedd},
		{3, list(5, 6), 0x5189fde2b2aae730},
		{3, list(6, 5), 0x1b97c7af9dc31a78},
		{3, list(5, 0), 0xfff3d675e3aafdb9},
		{3, list(0, 5), 0x74c7cc893656e0ca},
		{7, list(1, 2, 3), 0x42356137792806d1},
		{0, list(low), 0xf39396e4f39396e4},
		{1 << 63, list(low), 0},
		{most, list(top, low), 0x5a9f3791ca51b231},
		{12345678901234567890, list(63, 1<<30, 4095), 0x2ab9105a5ec46ace},
	}
}

// P8.1: At.
func TestAt(t *testing.T) {
	for _, x := range allDrawn() {
		if got := draw.At(x.seed, x.n...); got != x.want {
			t.Errorf("At(%d, %v): got %x, not %x", x.seed, x.n, got, x.want)
		}
	}
}

// P8.1: Below.
func TestBelow(t *testing.T) {
	const drawn = 0x7be2226c616fcedd
	checkAll(t, []example[uint64]{
		{"of 1", of(draw.Below(1, 3, 5)), good[uint64](0)},
		{"of 2", of(draw.Below(2, 3, 5)), good[uint64](1)},
		{"of 3", of(draw.Below(3, 3, 5)), good[uint64](1)},
		{"of 3, else", of(draw.Below(3, 7, 1, 2, 3)), good[uint64](2)},
		{"of 10", of(draw.Below(10, 3, 5)), good[uint64](1)},
		{"of 10, else", of(draw.Below(10, 7, 1, 2, 3)), good[uint64](7)},
		{"of 1000", of(draw.Below(1000, 3, 5)), good[uint64](141)},
		{"of 1000, else", of(draw.Below(1000, 7, 1, 2, 3)), good[uint64](417)},
		{"of 2^32", of(draw.Below(1<<32, 3, 5)), good[uint64](1634717405)},
		{"of 2^63", of(draw.Below(1<<63, 3, 5)), good[uint64](8926735260288274141)},
		{"of the draw", of(draw.Below(drawn, 3, 5)), good[uint64](0)},
		{"of one less", of(draw.Below(drawn-1, 3, 5)), good[uint64](1)},
		{"of one more", of(draw.Below(drawn+1, 3, 5)), good[uint64](drawn)},
		{"of the greatest", of(draw.Below(most, 3, 5)), good[uint64](drawn)},
		{"of the greatest, with all bits", of(draw.Below(most, 3, 5, 0)), good[uint64](0xfff3d675e3aafdb9)},
		{"for nothing", of(draw.Below(10, 1)), good[uint64](4)},
		{"of a seed of 0, for nothing", of(draw.Below(10, 0)), good[uint64](0)},
		{"for numbers below 0", of(draw.Below(most, 0, -1)), good[uint64](0xa68094cce9e291eb)},
	})
}

// P8.1: Below's error.
func TestBelowErrors(t *testing.T) {
	checkAll(t, []example[uint64]{
		{"of 0", of(draw.Below(0, 3, 5)), bad[uint64](api.ErrArg)},
		{"of 0, for nothing", of(draw.Below(0, 3)), bad[uint64](api.ErrArg)},
		{"of 0, of a seed of 0", of(draw.Below(0, 0)), bad[uint64](api.ErrArg)},
		{"of 0, for many", of(draw.Below(0, most, low, top, -1, 0)), bad[uint64](api.ErrArg)},
	})
}

// P8.1: Chance.
func TestChance(t *testing.T) {
	const drawn = 0x7be2226c616fcedd
	checkAll(t, []example[bool]{
		{"1 of 10, of 1", of(draw.Chance(1, 10, 3, 5)), good(false)},
		{"2 of 10, of 1", of(draw.Chance(2, 10, 3, 5)), good(true)},
		{"7 of 10, of 7", of(draw.Chance(7, 10, 7, 1, 2, 3)), good(false)},
		{"8 of 10, of 7", of(draw.Chance(8, 10, 7, 1, 2, 3)), good(true)},
		{"141 of 1000, of 141", of(draw.Chance(141, 1000, 3, 5)), good(false)},
		{"142 of 1000, of 141", of(draw.Chance(142, 1000, 3, 5)), good(true)},
		{"as many as the draw", of(draw.Chance(drawn, most, 3, 5)), good(false)},
		{"one more than the draw", of(draw.Chance(drawn+1, most, 3, 5)), good(true)},
		{"as many as a draw with all bits", of(draw.Chance(0xfff3d675e3aafdb9, most, 3, 5, 0)), good(false)},
		{"one more than a draw with all bits", of(draw.Chance(0xfff3d675e3aafdba, most, 3, 5, 0)), good(true)},
		{"none of 1", of(draw.Chance(0, 1, 3, 5)), good(false)},
		{"1 of 1", of(draw.Chance(1, 1, 3, 5)), good(true)},
		{"none of 10, where 0 is drawn", of(draw.Chance(0, 10, 0)), good(false)},
		{"1 of 10, where 0 is drawn", of(draw.Chance(1, 10, 0)), good(true)},
		{"none of the greatest", of(draw.Chance(0, most, 3, 5)), good(false)},
		{"all of the greatest", of(draw.Chance(most, most, 3, 5)), good(true)},
	})
}

// P8.1: Chance's error.
func TestChanceErrors(t *testing.T) {
	checkAll(t, []example[bool]{
		{"none of nothing", of(draw.Chance(0, 0, 3, 5)), bad[bool](api.ErrArg)},
		{"none of nothing, where 0 is drawn", of(draw.Chance(0, 0, 0)), bad[bool](api.ErrArg)},
		{"some of nothing", of(draw.Chance(1, 0, 3, 5)), bad[bool](api.ErrArg)},
		{"all of nothing", of(draw.Chance(most, 0, 3, 5)), bad[bool](api.ErrArg)},
		{"one more than the whole", of(draw.Chance(11, 10, 3, 5)), bad[bool](api.ErrArg)},
		{"two of 1, where 0 is drawn", of(draw.Chance(2, 1, 0)), bad[bool](api.ErrArg)},
		{"far more than the whole", of(draw.Chance(most, 10, 3, 5)), bad[bool](api.ErrArg)},
		{"more than all but the greatest", of(draw.Chance(most, most-1, 3, 5)), bad[bool](api.ErrArg)},
	})
}
