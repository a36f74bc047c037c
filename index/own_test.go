package index_test

import (
	"slices"
	"testing"

	"thrum/api"
	"thrum/index"
)

// roomy is a list with room behind it, which a call might write into.
func roomy[T any](l ...T) []T {
	return append(make([]T, 0, 2*len(l)+8), l...)
}

// checkKept tells when a roomy list, or the room behind it, is not as it was.
func checkKept[T comparable](t *testing.T, name string, l []T, want ...T) {
	t.Helper()
	room := append(slices.Clone(want), make([]T, cap(l)-len(l))...)
	if !slices.Equal(l[:cap(l)], room) {
		t.Errorf("%s: got %v, was %v", name, l[:cap(l)], room)
	}
}

// fill writes x into a list, and into the room behind it.
func fill[T any](l []T, x T) {
	for i := range l[:cap(l)] {
		l[:cap(l)][i] = x
	}
}

// checkOwn tells when a call changes what it is handed, or shares memory with it or with another answer.
func checkOwn[A, B comparable](t *testing.T, name string, call func([]A) ([]B, api.Errno), junk A, other B, was ...A) {
	t.Helper()
	l := roomy(was...)
	got, e := call(l)
	again, _ := call(l)
	checkKept(t, name, l, was...)
	if e != api.OK || len(got) == 0 {
		t.Fatalf("%s: got %v, %d", name, got, e)
	}
	want := slices.Clone(got)
	fill(l, junk)
	if !slices.Equal(got, want) {
		t.Errorf("%s: what is written into the argument is in the answer: %v", name, got)
	}
	fill(got, other)
	if slices.ContainsFunc(l[:cap(l)], func(x A) bool { return x != junk }) {
		t.Errorf("%s: what is written into the answer is in the argument: %v", name, l)
	}
	if !slices.Equal(again, want) {
		t.Errorf("%s: what is written into one answer is in another: %v", name, again)
	}
}

// R2: what is handed in stays as it is, and what is told is new.
func TestListsToldAreNew(t *testing.T) {
	checkOwn(t, "Put", func(l []int) ([]byte, api.Errno) { return index.Put(9, l...) }, 77, 99, 1, 2, 5)
	checkOwn(t, "Get", func(b []byte) ([]int, api.Errno) {
		l, _, e := index.Get(9, b, 1)
		return l, e
	}, 77, 99, 7, 3, 1, 0, 2, 8)
	checkOwn(t, "Spread, places", func(l []int) ([]int64, api.Errno) { return index.Spread(9, l, vector(3, 4, 5)) }, 77, 99, 1, 2, 5)
	checkOwn(t, "Spread, numbers", func(v []int64) ([]int64, api.Errno) { return index.Spread(9, list(1, 2, 5), v) }, 77, 99, 3, 4, 5)
	checkOwn(t, "Spread, numbers at all places", func(v []int64) ([]int64, api.Errno) { return index.Spread(3, list(0, 1, 2), v) }, 77, 99, 3, 4, 5)
	checkOwn(t, "Gather, places", func(l []int) ([]int64, api.Errno) { return index.Gather(l, vector(3, 4, 5, 6)) }, 77, 99, 0, 2, 3)
	checkOwn(t, "Gather, numbers", func(v []int64) ([]int64, api.Errno) { return index.Gather(list(0, 2), v) }, 77, 99, 3, 4, 5, 6)
	checkOwn(t, "Gather, all numbers", func(v []int64) ([]int64, api.Errno) { return index.Gather(list(0, 1, 2), v) }, 77, 99, 3, 4, 5)
	checkOwn(t, "Left", func(l []int) ([]int, api.Errno) { return index.Left(9, l...) }, 77, 99, 1, 2, 5)
	merge := func(l ...[]int) ([]int, api.Errno) { return index.Merge(l...), api.OK }
	checkOwn(t, "Merge of one", func(l []int) ([]int, api.Errno) { return merge(l) }, 77, 99, 1, 2, 5)
	checkOwn(t, "Merge of one that does not rise", func(l []int) ([]int, api.Errno) { return merge(l) }, 77, 99, 5, 1, 5, 2)
	checkOwn(t, "Merge of the first", func(l []int) ([]int, api.Errno) { return merge(l, list(4)) }, 77, 99, 5, 1, 2)
	checkOwn(t, "Merge of the last", func(l []int) ([]int, api.Errno) { return merge(nil, list(4), l) }, 77, 99, 5, 1, 2)
}

// R2: the list of lists that are merged stays as it is, too.
func TestListsMergedStay(t *testing.T) {
	lists := [][]int{{9, 3}, nil, {3, 1}}
	index.Merge(lists...)
	if len(lists[1]) != 0 || !slices.Equal(lists[0], list(9, 3)) || !slices.Equal(lists[2], list(3, 1)) {
		t.Errorf("got %v", lists)
	}
}

// R2: what is handed in stays as it is, also where a call goes wrong, and where it only tells.
func TestArgumentsStay(t *testing.T) {
	l, v := roomy(2, 1, 9), roomy[int64](7, 8)
	index.Check(5, l...)
	index.Put(5, l...)
	index.Left(5, l...)
	index.Spread(5, l, v)
	index.Gather(l, v)
	index.Has(l, 1)
	index.Has(l, 5)
	checkKept(t, "places", l, 2, 1, 9)
	checkKept(t, "numbers", v, 7, 8)
	b := roomy[byte](2, 1, 9, 128)
	index.Get(5, b, 0)
	index.Get(200, b, 0)
	index.Get(5, b, 3)
	checkKept(t, "bytes", b, 2, 1, 9, 128)
}

// R5: a call tells the same again, whatever was asked between.
func TestNothingIsKept(t *testing.T) {
	for range 3 {
		if e := index.Check(5, 1, 4); e != api.OK {
			t.Errorf("got %d", e)
		}
		if e := index.Check(5, 4, 1); e != api.ErrArg {
			t.Errorf("got %d", e)
		}
		if got := of(index.Gather(list(0), vector(3))); !got.is(good[int64](3)) {
			t.Errorf("got %v", got)
		}
	}
}
