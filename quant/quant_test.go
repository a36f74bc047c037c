package quant_test

import (
	"math"
	"testing"

	"thrum/api"
	"thrum/quant"
)

const (
	most = math.MaxInt64
	low  = math.MinInt64
)

// answer is what a call tells: a number, what is left, where that is told, and an error.
type answer struct {
	n, rest uint64
	e       api.Errno
}

func steps(n uint64, e api.Errno) answer { return answer{n: n, e: e} }

func level(n, rest uint64, e api.Errno) answer { return answer{n: n, rest: rest, e: e} }

func value(n int64, e api.Errno) answer { return answer{n: uint64(n), e: e} }

// bad is an error where numbers are told: they are zero.
func bad(e api.Errno) answer { return answer{e: e} }

// example is a call as it is written, what it answers, and what it is to answer.
type example struct {
	call string
	got  answer
	want answer
}

func checkAll(t *testing.T, l []example) {
	t.Helper()
	for _, x := range l {
		if x.got != x.want {
			t.Errorf("%s: got %v, not %v", x.call, x.got, x.want)
		}
	}
}

// P10.1: Steps, of every width that may be.
func TestSteps(t *testing.T) {
	for i, want := range []uint64{1, 3, 7, 15, 31, 63, 127, 255} {
		if got := steps(quant.Steps(i + 1)); got != steps(want, api.OK) {
			t.Errorf("%d: got %v", i+1, got)
		}
	}
}

// P10.1: Steps' error.
func TestStepsErrors(t *testing.T) {
	for _, wide := range []int{math.MinInt, -8, -1, 0, 9, 10, 63, 64, 65, 1 << 32, 1<<32 + 3, math.MaxInt} {
		if got := steps(quant.Steps(wide)); got != bad(api.ErrArg) {
			t.Errorf("%d: got %v", wide, got)
		}
	}
}

// P10.1: Level, as another program works it out.
func TestLevel(t *testing.T) {
	for _, x := range []struct {
		n, scale    int64
		wide        int
		level, rest uint64
	}{
		{7, 10, 2, 2, 1},
		{-7, 10, 2, 2, 1},
		{10, 10, 2, 3, 0},
		{-10, 10, 2, 3, 0},
		{0, 10, 2, 0, 0},
		{1, 3, 1, 0, 1},
		{2, 3, 1, 0, 2},
		{-2, 3, 1, 0, 2},
		{3, 3, 1, 1, 0},
		{5, 7, 2, 2, 1},
		{6, 7, 2, 2, 4},
		{1, 1000, 8, 0, 255},
		{3, 1000, 8, 0, 765},
		{4, 1000, 8, 1, 20},
		{100, 1000, 8, 25, 500},
		{999, 1000, 8, 254, 745},
		{1000, 1000, 8, 255, 0},
		{1, 255, 8, 1, 0},
		{254, 255, 8, 254, 0},
		{1, 256, 8, 0, 255},
		{1, 1, 1, 1, 0},
		{1, 1, 8, 255, 0},
		{1, 2, 1, 0, 1},
		{1, 2, 8, 127, 1},
		{123456789, 987654321, 5, 3, 864197496},
		{0, 0, 1, 0, 0},
		{0, 0, 8, 0, 0},
		{0, most, 8, 0, 0},
		// Products that have no place in 64 bits.
		{most, most, 8, 255, 0},
		{-most, most, 8, 255, 0},
		{-most, most, 1, 1, 0},
		{most - 1, most, 8, 254, 9223372036854775552},
		{most - 1, most, 1, 0, 9223372036854775806},
		{most / 2, most, 8, 127, 4611686018427387776},
		{1 << 62, most, 8, 127, 4611686018427388031},
		{-(1 << 62), 1<<62 + 1, 8, 254, 4611686018427387650},
		{1<<56 + 1, most, 8, 1, 9151314442816848128},
		{1, most, 8, 0, 255},
	} {
		if got := level(quant.Level(x.n, x.scale, x.wide)); got != level(x.level, x.rest, api.OK) {
			t.Errorf("%v: got %v", x, got)
		}
	}
}

// P10.1: Level's error.
func TestLevelErrors(t *testing.T) {
	checkAll(t, []example{
		{"no width", level(quant.Level(7, 10, 0)), bad(api.ErrArg)},
		{"a width below 0", level(quant.Level(7, 10, -2)), bad(api.ErrArg)},
		{"a width too great", level(quant.Level(7, 10, 9)), bad(api.ErrArg)},
		{"the greatest width", level(quant.Level(7, 10, math.MaxInt)), bad(api.ErrArg)},
		{"no width of nothing", level(quant.Level(0, 0, 0)), bad(api.ErrArg)},
		{"a width too great of nothing", level(quant.Level(0, 0, 9)), bad(api.ErrArg)},
		{"a scale below 0", level(quant.Level(7, -10, 2)), bad(api.ErrArg)},
		{"a scale below 0 of its opposite", level(quant.Level(10, -10, 2)), bad(api.ErrArg)},
		{"a scale below 0 of itself", level(quant.Level(-10, -10, 2)), bad(api.ErrArg)},
		{"a scale below 0 of 0", level(quant.Level(0, -1, 2)), bad(api.ErrArg)},
		{"the least scale of the least", level(quant.Level(low, low, 2)), bad(api.ErrArg)},
		{"one more than the scale", level(quant.Level(11, 10, 2)), bad(api.ErrArg)},
		{"one less than its opposite", level(quant.Level(-11, 10, 2)), bad(api.ErrArg)},
		{"1 by 0", level(quant.Level(1, 0, 2)), bad(api.ErrArg)},
		{"-1 by 0", level(quant.Level(-1, 0, 2)), bad(api.ErrArg)},
		{"the greatest by one less", level(quant.Level(most, most-1, 8)), bad(api.ErrArg)},
		{"the least by 0", level(quant.Level(low, 0, 8)), bad(api.ErrArg)},
		{"the least by 10", level(quant.Level(low, 10, 8)), bad(api.ErrArg)},
		{"the least by the greatest", level(quant.Level(low, most, 8)), bad(api.ErrArg)},
	})
}

// P10.1: Value, as another program works it out.
func TestValue(t *testing.T) {
	for _, x := range []struct {
		level uint64
		scale int64
		wide  int
		want  int64
	}{
		{0, 10, 2, 0},
		{1, 10, 2, 3},
		{2, 10, 2, 6},
		{3, 10, 2, 10},
		{0, 7, 1, 0},
		{1, 7, 1, 7},
		{0, 0, 1, 0},
		{1, 0, 1, 0},
		{255, 0, 8, 0},
		{1, 1, 8, 0},
		{254, 1, 8, 0},
		{255, 1, 8, 1},
		{127, 255, 8, 127},
		{127, 256, 8, 127},
		{6, 1000, 3, 857},
		{17, 987654321, 5, 541616885},
		// Products that have no place in 64 bits.
		{0, most, 8, 0},
		{1, most, 8, 36170086419038336},
		{128, most, 8, 4629771061636907071},
		{254, most, 8, 9187201950435737470},
		{255, most, 8, most},
		{2, most, 2, 6148914691236517204},
		{63, most, 6, most},
		{1, most, 1, most},
	} {
		if got := value(quant.Value(x.level, x.scale, x.wide)); got != value(x.want, api.OK) {
			t.Errorf("%v: got %v", x, got)
		}
	}
}

// P10.1: Value's error.
func TestValueErrors(t *testing.T) {
	checkAll(t, []example{
		{"no width", value(quant.Value(0, 10, 0)), bad(api.ErrArg)},
		{"a width below 0", value(quant.Value(1, 10, -1)), bad(api.ErrArg)},
		{"a width too great", value(quant.Value(1, 10, 9)), bad(api.ErrArg)},
		{"the greatest width", value(quant.Value(1, 10, math.MaxInt)), bad(api.ErrArg)},
		{"a scale below 0", value(quant.Value(1, -10, 2)), bad(api.ErrArg)},
		{"a scale below 0 of 0", value(quant.Value(0, -1, 2)), bad(api.ErrArg)},
		{"the least scale", value(quant.Value(3, low, 2)), bad(api.ErrArg)},
		{"one above the top, of 1", value(quant.Value(2, 10, 1)), bad(api.ErrArg)},
		{"one above the top, of 2", value(quant.Value(4, 10, 2)), bad(api.ErrArg)},
		{"one above the top, of 8", value(quant.Value(256, 10, 8)), bad(api.ErrArg)},
		{"one above the top of a scale of 0", value(quant.Value(4, 0, 2)), bad(api.ErrArg)},
		{"far above the top", value(quant.Value(1<<32, 10, 8)), bad(api.ErrArg)},
		{"the greatest level", value(quant.Value(math.MaxUint64, most, 8)), bad(api.ErrArg)},
	})
}
