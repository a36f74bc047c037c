package quant_test

import (
	"slices"
	"sync"
	"testing"

	"thrum/api"
	"thrum/quant"
)

// roomy and drawnFor are numbers with room behind them that is the caller's: a call might write into it.
func roomy() []int64 { return append(mixed(), 88, -99, 111)[:5] }

func drawnFor() []int { return list(4, 9, 77, 78, 79)[:2] }

// checkKept tells when those numbers, or the room behind them, are not as they were.
func checkKept(t *testing.T, name string, v []int64, n []int) {
	t.Helper()
	if got := v[:8]; !slices.Equal(got, append(mixed(), 88, -99, 111)) {
		t.Errorf("%s: got %v", name, got)
	}
	if got := n[:cap(n)]; !slices.Equal(got, list(4, 9, 77, 78, 79)) {
		t.Errorf("%s: got %v", name, got)
	}
}

// R2: what is handed in stays as it is, and what stands behind it, also where a call goes wrong.
func TestWhatIsHandedInStays(t *testing.T) {
	v, n := roomy(), drawnFor()
	for wide := range 11 {
		quant.Press(v, wide-1, 3, n...)
		checkKept(t, "Press", v, n)
		quant.Press(nil, wide-1, 3, n...)
		quant.Press(vector(low), wide-1, 3, n...)
		checkKept(t, "Press, wrong", v, n)
	}
}

// R2: a vector that is asked about, or loosened, stays as it is.
func TestWhatIsAskedAboutStays(t *testing.T) {
	v, n := roomy(), drawnFor()
	s := pressed(10, 2, levels(3, 2, 0, 1, 3, 55, 66)[:5], append(below(5, 1, 4), true, false, true)[:5])
	stays := func(name string) {
		t.Helper()
		checkKept(t, name, v, n)
		if !slices.Equal(s.Lev[:cap(s.Lev)], levels(3, 2, 0, 1, 3, 55, 66)) || !slices.Equal(s.Neg[:8], append(below(5, 1, 4), true, false, true)) {
			t.Errorf("%s: got %v, %v", name, s.Lev, s.Neg)
		}
	}
	quant.Near(v, s)
	quant.Near(v[:4], s)
	stays("Near")
	quant.Loosen(s)
	stays("Loosen")
	s.Scale = -1
	quant.Near(v, s)
	quant.Loosen(s)
	stays("wrong")
}

// R2: what is told is new, and shares nothing with what was handed in or told.
func TestWhatIsPressedIsNew(t *testing.T) {
	v, n := roomy(), drawnFor()
	first, e := quant.Press(v, 2, 0, n...)
	again, _ := quant.Press(v, 2, 0, n...)
	want := pressByWords(v, 2, 0, list(4, 9))
	if !same(first, want) || e != api.OK {
		t.Fatalf("got %v, %d", first, e)
	}
	v[0], v[1], n[0], n[1] = -1, 2, 0, 0
	if !same(first, want) {
		t.Error("what is written into an argument is in the answer")
	}
	v[0], v[1], n[0], n[1] = 10, -7, 4, 9
	for i := range first.Lev[:cap(first.Lev)] {
		first.Lev[:cap(first.Lev)][i] = 9
	}
	for i := range first.Neg[:cap(first.Neg)] {
		first.Neg[:cap(first.Neg)][i] = true
	}
	checkKept(t, "Press", v, n)
	if third, _ := quant.Press(v, 2, 0, n...); !same(again, want) || !same(third, want) {
		t.Error("what is written into one answer is in another")
	}
}

// R2: what is loosened is new.
func TestWhatIsLoosenedIsNew(t *testing.T) {
	s := pressed(10, 2, levels(3, 2, 0, 1, 3), below(5, 1, 4))
	want := vector(10, -6, 0, 3, -10)
	first, e := quant.Loosen(s)
	again, _ := quant.Loosen(s)
	if !slices.Equal(first, want) || e != api.OK {
		t.Fatalf("got %v, %d", first, e)
	}
	s.Lev[0], s.Neg[0] = 0, true
	if !slices.Equal(first, want) {
		t.Error("what is written into the argument is in the answer")
	}
	s.Lev[0], s.Neg[0] = 3, false
	for i := range first[:cap(first)] {
		first[:cap(first)][i] = 7
	}
	if third, _ := quant.Loosen(s); !slices.Equal(again, want) || !slices.Equal(third, want) {
		t.Error("what is written into one answer is in another")
	}
}

// R5: however many press at once, for the same numbers, all get the same.
func TestPressedSideBySide(t *testing.T) {
	v, n := many(300), drawnFor()
	want := pressByWords(v, 4, 5, list(4, 9))
	got := make([]api.Sent, 50)
	var all sync.WaitGroup
	for i := range got {
		all.Go(func() {
			got[i], _ = quant.Press(v, 4, 5, n...)
		})
	}
	all.Wait()
	for i, s := range got {
		if !same(s, want) || !quant.Near(v, s) {
			t.Errorf("%d: got %v", i, s)
		}
	}
	if !slices.Equal(v, many(300)) || !slices.Equal(n[:cap(n)], list(4, 9, 77, 78, 79)) {
		t.Error("the numbers are others")
	}
}
