package draw_test

import (
	"slices"
	"sync"
	"testing"

	"thrum/api"
	"thrum/draw"
)

// roomy are numbers with room behind them that is the caller's: a call might write into it.
func roomy() []int {
	return list(5, -6, 7, 88, 99, 111)[:3]
}

// checkKept tells when roomy numbers, or the room behind them, are not as they were.
func checkKept(t *testing.T, name string, n []int) {
	t.Helper()
	if got := n[:cap(n)]; !slices.Equal(got, list(5, -6, 7, 88, 99, 111)) {
		t.Errorf("%s: got %v", name, got)
	}
}

// R2: what is drawn for stays as it is, and what stands behind it, also where a call goes wrong.
func TestNumbersDrawnForStay(t *testing.T) {
	n := roomy()
	draw.At(3, n...)
	checkKept(t, "At", n)
	draw.Below(10, 3, n...)
	draw.Below(0, 3, n...)
	checkKept(t, "Below", n)
	draw.Chance(1, 10, 3, n...)
	draw.Chance(11, 10, 3, n...)
	checkKept(t, "Chance", n)
	draw.Order(10, 3, n...)
	draw.Order(-1, 3, n...)
	draw.Order(4097, 3, n...)
	checkKept(t, "Order", n)
	draw.Pick(4, 10, 3, n...)
	draw.Pick(11, 10, 3, n...)
	draw.Pick(4, 4097, 3, n...)
	checkKept(t, "Pick", n)
}

// R2, P8.2: lists told are new ones.
func TestListsToldAreNew(t *testing.T) {
	for name, call := range map[string]func(n ...int) ([]int, api.Errno){
		"Order":         func(n ...int) ([]int, api.Errno) { return draw.Order(3, 9, n...) },
		"Pick":          func(n ...int) ([]int, api.Errno) { return draw.Pick(3, 20, 9, n...) },
		"Pick of all":   func(n ...int) ([]int, api.Errno) { return draw.Pick(3, 3, 9, n...) },
		"Order of many": func(n ...int) ([]int, api.Errno) { return draw.Order(4096, 9, n...) },
	} {
		n := roomy()
		first, e := call(n...)
		again, _ := call(n...)
		if e != api.OK || len(first) < 3 {
			t.Fatalf("%s: got %v, %d", name, first, e)
		}
		was := slices.Clone(first)
		n[0], n[1], n[2] = 0, 0, 0
		if !slices.Equal(first, was) {
			t.Errorf("%s: what is written into the argument is in the answer", name)
		}
		n[0], n[1], n[2] = 5, -6, 7
		first = first[:cap(first)]
		for i := range first {
			first[i] = -1
		}
		checkKept(t, name, n)
		if !slices.Equal(again, was) {
			t.Errorf("%s: what is written into one answer is in another", name)
		}
		if third, _ := call(n...); !slices.Equal(third, was) {
			t.Errorf("%s: what is written into one answer is in a later one", name)
		}
	}
}

// R5: however many draw at once, for the same numbers, all get the same.
func TestDrawnSideBySide(t *testing.T) {
	n := roomy()
	want, e := draw.Order(300, 3, n...)
	if e != api.OK || !slices.Equal(want, orderByWords(300, 3, n...)) {
		t.Fatalf("got %v, %d", want, e)
	}
	got := make([][]int, 50)
	var all sync.WaitGroup
	for i := range got {
		all.Go(func() {
			got[i], _ = draw.Pick(200, 300, 3, n...)
		})
	}
	all.Wait()
	for i, l := range got {
		if !slices.Equal(l, want[:200]) {
			t.Errorf("%d: got %v", i, l)
		}
	}
	checkKept(t, "side by side", n)
}
