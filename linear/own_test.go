package linear_test

import (
	"slices"
	"sync"
	"testing"

	"thrum/api"
	"thrum/linear"
)

// roomy are the first of some numbers; those behind them are the caller's, too: a call might write into them.
func roomy(n int) []int64 { return list(2, 3, 1, -5, 88, -99, 111)[:n] }

// checkKept tells when those, or the room behind them, are not as they were.
func checkKept(t *testing.T, name string, l ...[]int64) {
	t.Helper()
	for i, v := range l {
		if got := v[:cap(v)]; !slices.Equal(got, roomy(7)) {
			t.Errorf("%s: %d: got %v", name, i, got)
		}
	}
}

// roomySamples are two samples, with room behind them and behind what they see.
func roomySamples() []api.Sample {
	return append(make([]api.Sample, 0, 5), api.Sample{X: roomy(2), Y: 320}, api.Sample{X: roomy(2), Y: -7})
}

// checkSamples tells when those, or the room behind them, are not as they were.
func checkSamples(t *testing.T, name string, l []api.Sample) {
	t.Helper()
	checkKept(t, name, l[0].X, l[1].X)
	if len(l[0].X) != 2 || len(l[1].X) != 2 || l[0].Y != 320 || l[1].Y != -7 {
		t.Errorf("%s: got %v", name, l)
	}
	for _, s := range l[2:cap(l)] {
		if s.X != nil || s.Y != 0 {
			t.Errorf("%s: got %v", name, l[:cap(l)])
		}
	}
}

// R2: what is handed in stays as it is, and what stands behind it.
func TestWhatIsHandedInStays(t *testing.T) {
	w, l := roomy(3), roomySamples()
	for name, call := range map[string]func(){
		"Check": func() { linear.Check(2, w, l...) },
		"Tell":  func() { linear.Tell(w, l[0].X, 0) },
		"Off":   func() { linear.Off(w, l[1], 0) },
		"Grad":  func() { linear.Grad(w, 0, l...) },
		"Loss":  func() { linear.Loss(w, 0, l...) },
		"Mean":  func() { linear.Mean(2, w, w, w) },
		"one":   func() { linear.Mean(2, w) },
	} {
		call()
		checkKept(t, name, w)
		checkSamples(t, name, l)
	}
}

// R2: also where a call goes wrong, be it midway.
func TestWhatIsHandedInStaysOfErrors(t *testing.T) {
	w, l := roomy(3), roomySamples()
	bad := append(roomySamples(), seen(top, top, top))
	for name, call := range map[string]func(){
		"Check": func() { linear.Check(1, w, l...); linear.Check(2, w[:1], l...); linear.Check(2, w, l[:0]...) },
		"Tell":  func() { linear.Tell(w[:2], l[0].X, 0); linear.Tell(w, l[0].X, 31) },
		"Off":   func() { linear.Off(w, bad[2], 0); linear.Off(w[:1], l[0], 0) },
		"Grad":  func() { linear.Grad(w, 31, l...); linear.Grad(w, 0, bad...); linear.Grad(w, 0, l[:0]...) },
		"Loss":  func() { linear.Loss(w, 31, l...); linear.Loss(w, 0, bad...); linear.Loss(w[:2], 0, l...) },
		"Mean":  func() { linear.Mean(0, w, w); linear.Mean(2, w, list(1, top, 1)); linear.Mean(2, w, w[:2]) },
	} {
		call()
		checkKept(t, name, w)
		checkSamples(t, name, l)
		if !slices.Equal(bad[2].X, list(top, top)) || bad[2].Y != top {
			t.Errorf("%s: got %v", name, bad)
		}
	}
}

// R2: how a line is to be bent is new, and shares nothing with what was handed in or told.
func TestWhatGradTellsIsNew(t *testing.T) {
	for of := 1; of <= 2; of++ {
		w, l := roomy(3), roomySamples()[:of]
		first, e := linear.Grad(w, 0, l...)
		again, _ := linear.Grad(w, 0, l...)
		want := slices.Clone(first)
		if len(first) != 3 || e != api.OK {
			t.Fatalf("%d: got %v, %d", of, first, e)
		}
		for i := range of {
			l[i].X[0], l[i].X[1] = 40, 50
		}
		w[0], w[1], w[2] = 10, 20, 30
		if !slices.Equal(first, want) {
			t.Errorf("%d: what is written into an argument is in the answer", of)
		}
		for i := range first[:cap(first)] {
			first[:cap(first)][i] = 7
		}
		if !slices.Equal(again, want) || !slices.Equal(w, list(10, 20, 30)) {
			t.Errorf("%d: what is written into the answer is in another, or in an argument", of)
		}
		for i := range of {
			if !slices.Equal(l[i].X, list(40, 50)) {
				t.Errorf("%d: what is written into the answer is in a sample", of)
			}
		}
	}
}

// R2: means are new, also those of one vector alone, and its first part.
func TestMeansAreNew(t *testing.T) {
	for of := 1; of <= 3; of++ {
		for n, want := range map[int][]int64{1: list(int64(2*of), int64(3*of), int64(of)), 1000: list(0, 0, 0)} {
			v := roomy(3)
			l := slices.Repeat([][]int64{v}, of)
			first, e := linear.Mean(n, l...)
			again, _ := linear.Mean(n, l...)
			if !slices.Equal(first, want) || e != api.OK {
				t.Fatalf("%d by %d: got %v, %d", of, n, first, e)
			}
			v[0] = 100
			if !slices.Equal(first, want) {
				t.Errorf("%d by %d: what is written into an argument is in the answer", of, n)
			}
			v[0] = 2
			for i := range first[:cap(first)] {
				first[:cap(first)][i] = 7
			}
			checkKept(t, "Mean", v)
			if !slices.Equal(again, want) {
				t.Errorf("%d by %d: what is written into one answer is in another", of, n)
			}
		}
	}
}

// R5: however many call at once, with the same line and samples, all get the same.
func TestSideBySide(t *testing.T) {
	w, l := roomy(3), roomySamples()
	want, e := linear.Grad(w, 3, l...)
	loss, f := linear.Loss(w, 3, l...)
	got, are := make([][]int64, 50), make([]bool, 50)
	var all sync.WaitGroup
	for i := range got {
		all.Go(func() {
			got[i], _ = linear.Grad(w, 3, l...)
			n, _ := linear.Loss(w, 3, l...)
			off, _ := linear.Off(w, l[0], 3)
			mean, _ := linear.Mean(1, w)
			are[i] = n == loss && off == -318 && slices.Equal(mean, w)
		})
	}
	all.Wait()
	for i, v := range got {
		if !slices.Equal(v, want) || !are[i] || e != api.OK || f != api.OK {
			t.Errorf("%d: got %v", i, v)
		}
	}
	checkKept(t, "side by side", w)
	checkSamples(t, "side by side", l)
}
