package topk_test

import (
	"slices"
	"sync"
	"testing"

	"thrum/api"
	"thrum/topk"
)

// roomy are numbers with room behind them that is the caller's: a call might write into it.
func roomy() []int64 {
	return vector(3, -5, 5, 1, 88, -99, 111)[:4]
}

// checkKept tells when roomy numbers, or the room behind them, are not as they were.
func checkKept(t *testing.T, name string, v []int64) {
	t.Helper()
	if got := v[:cap(v)]; !slices.Equal(got, vector(3, -5, 5, 1, 88, -99, 111)) {
		t.Errorf("%s: got %v", name, got)
	}
}

// R2: what is handed in stays as it is, and what stands behind it, also where a call goes wrong.
func TestWhatIsHandedInStays(t *testing.T) {
	v := roomy()
	topk.Order(v...)
	checkKept(t, "Order", v)
	for _, k := range list(-1, 0, 1, 2, 3, 4, 5) {
		topk.Pick(k, v...)
		checkKept(t, "Pick", v)
		topk.Press(k, v...)
		checkKept(t, "Press", v)
	}
	l := list(2, 0, 9, -1, 77, 78)[:4]
	topk.Least(l, v)
	checkKept(t, "Least", v)
	if !slices.Equal(l[:cap(l)], list(2, 0, 9, -1, 77, 78)) {
		t.Errorf("Least: got %v", l)
	}
}

// R2: a vector that is asked about stays as it is.
func TestWhatIsAskedAboutStays(t *testing.T) {
	v := roomy()
	l, n := list(2, 1, 77)[:2], vector(5, -5, 88)[:2]
	s := top(4, l, n...)
	for _, k := range list(-1, 1, 2) {
		topk.Is(k, v, s)
	}
	checkKept(t, "Is", v)
	if !slices.Equal(l[:cap(l)], list(2, 1, 77)) || !slices.Equal(n[:cap(n)], vector(5, -5, 88)) {
		t.Errorf("Is: got %v, %v", l, n)
	}
}

// R2: lists told are new ones.
func TestListsToldAreNew(t *testing.T) {
	for name, call := range map[string]func(v ...int64) ([]int, api.Errno){
		"Order":         topk.Order,
		"Pick":          func(v ...int64) ([]int, api.Errno) { return topk.Pick(2, v...) },
		"Pick of all":   func(v ...int64) ([]int, api.Errno) { return topk.Pick(4, v...) },
		"Press, places": func(v ...int64) ([]int, api.Errno) { s, e := topk.Press(3, v...); return s.L, e },
	} {
		v := roomy()
		first, e := call(v...)
		again, _ := call(v...)
		if e != api.OK || len(first) < 2 {
			t.Fatalf("%s: got %v, %d", name, first, e)
		}
		was := slices.Clone(first)
		first = first[:cap(first)]
		for i := range first {
			first[i] = -1
		}
		if !slices.Equal(again, was) {
			t.Errorf("%s: what is written into one answer is in another", name)
		}
		if third, _ := call(v...); !slices.Equal(third, was) {
			t.Errorf("%s: what is written into one answer is in a later one", name)
		}
	}
}

// R2: numbers that are left of a vector are not the vector's own, also where all of them are.
func TestNumbersToldAreNew(t *testing.T) {
	for _, k := range list(1, 2, 4) {
		v := roomy()
		s, e := topk.Press(k, v...)
		if e != api.OK || len(s.V) != k {
			t.Fatalf("%d: got %v, %d", k, s, e)
		}
		was := slices.Clone(s.V)
		v[0], v[1], v[2], v[3] = 0, 0, 0, 0
		if !slices.Equal(s.V, was) {
			t.Errorf("%d: what is written into the argument is in the answer", k)
		}
		v = roomy()
		again, _ := topk.Press(k, v...)
		for i := range s.V[:cap(s.V)] {
			s.V[:cap(s.V)][i] = 7
		}
		checkKept(t, "Press", v)
		if !slices.Equal(again.V, was) {
			t.Errorf("%d: what is written into one answer is in another", k)
		}
	}
}

// R5: however many ask at once, all get the same.
func TestAskedSideBySide(t *testing.T) {
	v := many(300)
	want, e := topk.Press(100, v...)
	if e != api.OK || len(want.L) != 100 {
		t.Fatalf("got %v, %d", want, e)
	}
	got := make([]api.Sent, 50)
	var all sync.WaitGroup
	for i := range got {
		all.Go(func() {
			got[i], _ = topk.Press(100, v...)
		})
	}
	all.Wait()
	for i, s := range got {
		if !same(s, want) || !topk.Is(100, v, s) {
			t.Errorf("%d: got %v", i, s)
		}
	}
	if !slices.Equal(v, many(300)) {
		t.Error("the numbers are others")
	}
}
