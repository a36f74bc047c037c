package index_test

import (
	"math"
	"slices"
	"testing"

	"thrum/api"
	"thrum/index"
)

const (
	top = math.MaxInt
	low = math.MinInt
)

// answer is what a call tells: a list (of one thing, where it tells one), the place behind a code, and an error.
type answer[T comparable] struct {
	l  []T
	at int
	e  api.Errno
}

func (a answer[T]) is(b answer[T]) bool {
	return a.e == b.e && a.at == b.at && slices.Equal(a.l, b.l)
}

// brief is an answer whose list is cut, so that a long one can be told.
func (a answer[T]) brief() answer[T] {
	return answer[T]{l: a.l[:min(len(a.l), 20)], at: a.at, e: a.e}
}

func of[T comparable](l []T, e api.Errno) answer[T] { return answer[T]{l: l, e: e} }

func placed(l []int, at int, e api.Errno) answer[int] { return answer[int]{l: l, at: at, e: e} }

func good[T comparable](l ...T) answer[T] { return answer[T]{l: l} }

// goodAt is what is told of places, and the place behind their code.
func goodAt(at int, l ...int) answer[int] { return answer[int]{l: l, at: at} }

func bad[T comparable](e api.Errno) answer[T] { return answer[T]{e: e} }

// example is a call as it is written, what it answers, and what it is to answer.
type example[T comparable] struct {
	call string
	got  answer[T]
	want answer[T]
}

func checkAll[T comparable](t *testing.T, l []example[T]) {
	t.Helper()
	for _, x := range l {
		if !x.got.is(x.want) {
			t.Errorf("%s: got %v, not %v", x.call, x.got.brief(), x.want.brief())
		}
	}
}

// text, list and vector are a text, places and numbers as they are written; many is n times the same; upTo are the numbers from one on, below another one.
func text(b ...byte) []byte { return b }

func list(l ...int) []int { return l }

func vector(v ...int64) []int64 { return v }

func many[T any](n int, x T) []T { return slices.Repeat([]T{x}, n) }

func upTo(from, to int) []int {
	l := make([]int, to-from)
	for i := range l {
		l[i] = from + i
	}
	return l
}

// noDims are dimensions that may not be.
func noDims() []int { return []int{0, -1, -5, low, 4097, 5000, top} }

// none are lists that are no places of a dimension of 5.
func none() [][]int {
	return [][]int{
		{-1}, {-2}, {low}, {5}, {6}, {4096}, {top},
		{-1, 0}, {-1, 3}, {low, 4}, {0, 5}, {4, 5}, {4, top}, {0, -1}, {4, low},
		{0, 0}, {1, 1}, {4, 4}, {0, 1, 1}, {1, 1, 2}, {0, 1, 2, 3, 4, 4},
		{1, 0}, {2, 1}, {4, 0}, {0, 2, 1}, {2, 3, 1}, {3, 4, 0}, {0, 3, 1, 2, 4}, {4, 3, 2, 1, 0},
		{5, 1}, {1, 5, 2}, {-1, -1}, {5, 5}, {0, 1, 2, 3, 4, 5},
	}
}

// P6.1: Check of places that may be.
func TestCheck(t *testing.T) {
	for _, x := range []struct {
		dim int
		l   []int
	}{
		{9, list(1, 2, 5)},
		{1, nil},
		{1, list()},
		{1, list(0)},
		{5, list(0)},
		{5, list(4)},
		{5, list(0, 4)},
		{5, list(1, 3)},
		{5, upTo(0, 5)},
		{4096, nil},
		{4096, list(0, 4095)},
		{4096, list(4095)},
		{4096, upTo(0, 4096)},
		{4095, upTo(0, 4095)},
	} {
		if e := index.Check(x.dim, x.l...); e != api.OK {
			t.Errorf("Check(%d, %v): got %d", x.dim, good(x.l...).brief(), e)
		}
	}
}

// P6.1: Check's ErrArg.
func TestCheckErrors(t *testing.T) {
	for _, dim := range noDims() {
		for _, l := range [][]int{nil, {0}, {0, 1}, {-1}, {2, 1}} {
			if e := index.Check(dim, l...); e != api.ErrArg {
				t.Errorf("Check(%d, %v): got %d", dim, l, e)
			}
		}
	}
	for _, l := range none() {
		if e := index.Check(5, l...); e != api.ErrArg {
			t.Errorf("Check(5, %v): got %d", l, e)
		}
	}
	for _, x := range []struct {
		call string
		dim  int
		l    []int
	}{
		{"a place of a dimension of 1", 1, list(1)},
		{"twice the place of a dimension of 1", 1, list(0, 0)},
		{"a place of the greatest dimension", 4096, list(4096)},
		{"more than the greatest dimension", 4096, upTo(0, 4097)},
		{"one more ahead of all", 4096, upTo(-1, 4096)},
		{"all, and the last one twice", 4096, append(upTo(0, 4096), 4095)},
		{"all but the last one, of one dimension less", 4094, upTo(0, 4095)},
	} {
		if e := index.Check(x.dim, x.l...); e != api.ErrArg {
			t.Errorf("%s: got %d", x.call, e)
		}
	}
}

// P6.1: Has.
func TestHas(t *testing.T) {
	for _, x := range []struct {
		l    []int
		n    int
		want int
		is   bool
	}{
		{nil, 0, 0, false},
		{list(), 7, 0, false},
		{nil, -1, 0, false},
		{nil, top, 0, false},
		{list(3), 2, 0, false},
		{list(3), 3, 0, true},
		{list(3), 4, 1, false},
		{list(0), 0, 0, true},
		{list(0), -1, 0, false},
		{list(1, 3, 5), 0, 0, false},
		{list(1, 3, 5), 1, 0, true},
		{list(1, 3, 5), 2, 1, false},
		{list(1, 3, 5), 3, 1, true},
		{list(1, 3, 5), 4, 2, false},
		{list(1, 3, 5), 5, 2, true},
		{list(1, 3, 5), 6, 3, false},
		{list(1, 3, 5), low, 0, false},
		{list(1, 3, 5), top, 3, false},
		{list(low, -3, 0, 9, top), low, 0, true},
		{list(low, -3, 0, 9, top), -3, 1, true},
		{list(low, -3, 0, 9, top), -2, 2, false},
		{list(low, -3, 0, 9, top), top - 1, 4, false},
		{list(low, -3, 0, 9, top), top, 4, true},
		{upTo(0, 5000), 4999, 4999, true},
		{upTo(0, 5000), 5000, 5000, false},
		{upTo(0, 5000), 4097, 4097, true},
	} {
		if at, is := index.Has(x.l, x.n); at != x.want || is != x.is {
			t.Errorf("Has(%v, %d): got %d, %v, not %d, %v", good(x.l...).brief(), x.n, at, is, x.want, x.is)
		}
	}
}

// R1: Has ends of a list that does not rise, too.
func TestHasEnds(t *testing.T) {
	for _, l := range [][]int{{5, 3, 1}, {2, 2, 2}, {1, 9, 0, 4}, {top, low}} {
		for n := range 10 {
			index.Has(l, n)
		}
	}
}

// P6.1: Merge.
func TestMerge(t *testing.T) {
	for _, x := range []struct {
		l    [][]int
		want []int
	}{
		{nil, nil},
		{[][]int{nil}, nil},
		{[][]int{{}, nil, {}}, nil},
		{[][]int{{4}}, list(4)},
		{[][]int{{1, 2, 5}}, list(1, 2, 5)},
		{[][]int{{1, 2, 5}, {1, 2, 5}}, list(1, 2, 5)},
		{[][]int{{1, 3}, {2, 4}}, list(1, 2, 3, 4)},
		{[][]int{{2, 4}, {1, 3}}, list(1, 2, 3, 4)},
		{[][]int{{3, 4}, {1, 2}}, list(1, 2, 3, 4)},
		{[][]int{{3, 1}, nil, {1, 2, 9}}, list(1, 2, 3, 9)},
		{[][]int{{0}, {0}, {0, 0}}, list(0)},
		{[][]int{{5, 4, 3, 2, 1}}, list(1, 2, 3, 4, 5)},
		{[][]int{{7, 7}, {7}, {3, 3, 3}}, list(3, 7)},
		{[][]int{{1, 2, 1}, {2, 1, 2}}, list(1, 2)},
		{[][]int{{top, 0}, {low, -1}, {top, low}}, list(low, -1, 0, top)},
		{[][]int{{4096, 5000}, {-7}}, list(-7, 4096, 5000)},
		{[][]int{upTo(2000, 7000), upTo(0, 3000)}, upTo(0, 7000)},
		{[][]int{{1}, {2}, {3}, {4}, {3}, {2}, {1}, {0}}, list(0, 1, 2, 3, 4)},
	} {
		if got := index.Merge(x.l...); !slices.Equal(got, x.want) {
			t.Errorf("Merge of %d: got %v, not %v", len(x.l), good(got...).brief(), good(x.want...).brief())
		}
	}
}

// P6.3: Spread, and Gather of what was spread.
func TestSpread(t *testing.T) {
	for _, x := range []struct {
		dim  int
		l    []int
		v    []int64
		want []int64
	}{
		{5, list(1, 4), vector(7, -8), vector(0, 7, 0, 0, -8)},
		{1, nil, nil, vector(0)},
		{1, list(0), vector(-3), vector(-3)},
		{3, nil, nil, vector(0, 0, 0)},
		{3, list(), vector(), vector(0, 0, 0)},
		{3, list(0), vector(9), vector(9, 0, 0)},
		{3, list(2), vector(9), vector(0, 0, 9)},
		{3, list(0, 1, 2), vector(3, 2, 1), vector(3, 2, 1)},
		{4, list(1, 2), vector(math.MinInt64, math.MaxInt64), vector(0, math.MinInt64, math.MaxInt64, 0)},
		{4, list(0, 3), vector(0, 0), vector(0, 0, 0, 0)},
		{4096, list(4095), vector(-1), append(make([]int64, 4095), -1)},
		{4096, upTo(0, 4096), many(4096, int64(5)), many(4096, int64(5))},
	} {
		if got, want := of(index.Spread(x.dim, x.l, x.v)), good(x.want...); !got.is(want) {
			t.Errorf("Spread(%d, %v): got %v, not %v", x.dim, good(x.l...).brief(), got.brief(), want.brief())
		}
		if got, want := of(index.Gather(x.l, x.want)), good(x.v...); !got.is(want) {
			t.Errorf("Gather(%v): got %v, not %v", good(x.l...).brief(), got.brief(), want.brief())
		}
	}
}

// P6.3: Spread's errors, and their order.
func TestSpreadErrors(t *testing.T) {
	for _, dim := range noDims() {
		checkAll(t, []example[int64]{
			{"a dimension that may not be", of(index.Spread(dim, list(0), vector(7))), bad[int64](api.ErrArg)},
			{"a dimension that may not be, of none", of(index.Spread(dim, nil, nil)), bad[int64](api.ErrArg)},
			{"a dimension that may not be, not as many", of(index.Spread(dim, list(0), nil)), bad[int64](api.ErrArg)},
		})
	}
	for _, l := range none() {
		if got := of(index.Spread(5, l, many(len(l), int64(7)))); !got.is(bad[int64](api.ErrArg)) {
			t.Errorf("Spread(5, %v): got %v", l, got)
		}
		if got := of(index.Spread(5, l, vector(1, 2, 3, 4, 5, 6, 7, 8))); !got.is(bad[int64](api.ErrArg)) {
			t.Errorf("Spread(5, %v) of other numbers: got %v", l, got)
		}
	}
	checkAll(t, []example[int64]{
		{"fewer than places", of(index.Spread(5, list(1), nil)), bad[int64](api.ErrShape)},
		{"one less than places", of(index.Spread(5, list(1, 2, 4), vector(7, 8))), bad[int64](api.ErrShape)},
		{"one more than places", of(index.Spread(5, list(1, 2), vector(7, 8, 9))), bad[int64](api.ErrShape)},
		{"one of no place", of(index.Spread(5, nil, vector(7))), bad[int64](api.ErrShape)},
		{"as many as the dimension", of(index.Spread(5, list(1), many(5, int64(0)))), bad[int64](api.ErrShape)},
		{"far more than places", of(index.Spread(4096, list(1), many(5000, int64(1)))), bad[int64](api.ErrShape)},
	})
}

// P6.3: Gather.
func TestGather(t *testing.T) {
	v := vector(7, -8, 0, math.MinInt64, math.MaxInt64)
	checkAll(t, []example[int64]{
		{"none", of(index.Gather(nil, v)), good[int64]()},
		{"none of an empty list", of(index.Gather(list(), v)), good[int64]()},
		{"none of nothing", of(index.Gather(nil, nil)), good[int64]()},
		{"the first", of(index.Gather(list(0), v)), good[int64](7)},
		{"the last", of(index.Gather(list(4), v)), good[int64](math.MaxInt64)},
		{"some", of(index.Gather(list(1, 3), v)), good[int64](-8, math.MinInt64)},
		{"all", of(index.Gather(upTo(0, 5), v)), good(v...)},
		{"the one of one", of(index.Gather(list(0), vector(3))), good[int64](3)},
		{"of more than a vector has", of(index.Gather(list(0, 4999), append(many(4999, int64(1)), 2))), good[int64](1, 2)},
	})
}

// P6.3: Gather's ErrArg.
func TestGatherErrors(t *testing.T) {
	for _, l := range none() {
		if got := of(index.Gather(l, vector(1, 2, 3, 4, 5))); !got.is(bad[int64](api.ErrArg)) {
			t.Errorf("Gather(%v): got %v", l, got)
		}
	}
	checkAll(t, []example[int64]{
		{"of nothing", of(index.Gather(list(0), nil)), bad[int64](api.ErrArg)},
		{"below 0, of nothing", of(index.Gather(list(-1), nil)), bad[int64](api.ErrArg)},
		{"one behind the end", of(index.Gather(list(0, 1), vector(5))), bad[int64](api.ErrArg)},
		{"one behind the end of many", of(index.Gather(list(1, 4096), make([]int64, 4096))), bad[int64](api.ErrArg)},
	})
}

// P6.3: Left.
func TestLeft(t *testing.T) {
	checkAll(t, []example[int]{
		{"of some", of(index.Left(5, 1, 4)), good(0, 2, 3)},
		{"of none", of(index.Left(4)), good(0, 1, 2, 3)},
		{"of all", of(index.Left(4, 0, 1, 2, 3)), good[int]()},
		{"of the first", of(index.Left(4, 0)), good(1, 2, 3)},
		{"of the last", of(index.Left(4, 3)), good(0, 1, 2)},
		{"of all but the first", of(index.Left(4, 1, 2, 3)), good(0)},
		{"of all but the last", of(index.Left(4, 0, 1, 2)), good(3)},
		{"of none of one", of(index.Left(1)), good(0)},
		{"of the one of one", of(index.Left(1, 0)), good[int]()},
		{"of none of the greatest dimension", of(index.Left(4096)), good(upTo(0, 4096)...)},
		{"of all of the greatest dimension", of(index.Left(4096, upTo(0, 4096)...)), good[int]()},
		{"of half of the greatest dimension", of(index.Left(4096, upTo(0, 2048)...)), good(upTo(2048, 4096)...)},
	})
}

// P6.3: Left's ErrArg.
func TestLeftErrors(t *testing.T) {
	for _, dim := range noDims() {
		checkAll(t, []example[int]{
			{"a dimension that may not be", of(index.Left(dim, 0)), bad[int](api.ErrArg)},
			{"a dimension that may not be, of none", of(index.Left(dim)), bad[int](api.ErrArg)},
		})
	}
	for _, l := range none() {
		if got := of(index.Left(5, l...)); !got.is(bad[int](api.ErrArg)) {
			t.Errorf("Left(5, %v): got %v", l, got)
		}
	}
}
