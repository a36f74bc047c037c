package mlp_test

import (
	"slices"
	"sync"
	"testing"

	"thrum/api"
	"thrum/mlp"
)

// roomy are the first of some numbers; those behind them are the caller's, too: a call might write into them.
func roomy(n int) []int64 { return list(20, -3, 5, -12, 90, 2, 8, -9, 11, 77, -66, 55)[:n] }

// checkKept tells when those, or the room behind them, are not as they were.
func checkKept(t *testing.T, name string, l ...[]int64) {
	t.Helper()
	for i, v := range l {
		if got := v[:cap(v)]; !slices.Equal(got, roomy(12)) {
			t.Errorf("%s: %d: got %v", name, i, got)
		}
	}
}

// roomySamples are two samples, with room behind them and behind what they see.
func roomySamples() []api.Sample {
	return append(make([]api.Sample, 0, 5), api.Sample{X: roomy(2), Y: 1}, api.Sample{X: roomy(2)})
}

// checkSamples tells when those, or the room behind them, are not as they were.
func checkSamples(t *testing.T, name string, l []api.Sample) {
	t.Helper()
	checkKept(t, name, l[0].X, l[1].X)
	if len(l[0].X) != 2 || len(l[1].X) != 2 || l[0].Y != 1 || l[1].Y != 0 {
		t.Errorf("%s: got %v", name, l)
	}
	for _, s := range l[2:cap(l)] {
		if s.X != nil || s.Y != 0 {
			t.Errorf("%s: got %v", name, l[:cap(l)])
		}
	}
}

// R2: what is handed in stays as it is, and what stands behind it.
func TestWhatIsHandedInStays(t *testing.T) {
	w, l := roomy(9), roomySamples()
	for name, call := range map[string]func() api.Errno{
		"Check":  func() api.Errno { return mlp.Check(2, 2, w, l...) },
		"Split":  func() api.Errno { _, _, e := mlp.Split(2, w); return e },
		"Bend":   func() api.Errno { _, e := mlp.Bend(w...); return e },
		"Hidden": func() api.Errno { _, e := mlp.Hidden(2, w, l[0].X, 4); return e },
		"Tell":   func() api.Errno { _, e := mlp.Tell(2, w, l[0].X, 4); return e },
		"Off":    func() api.Errno { _, e := mlp.Off(2, w, l[1], 4); return e },
		"Grad":   func() api.Errno { _, e := mlp.Grad(2, w, 4, l...); return e },
		"one":    func() api.Errno { _, e := mlp.Grad(2, w, 4, l[:1]...); return e },
	} {
		if e := call(); e != api.OK {
			t.Errorf("%s: got %d", name, e)
		}
		checkKept(t, name, w)
		checkSamples(t, name, l)
	}
}

// R2: also where a call goes wrong, be it midway.
func TestWhatIsHandedInStaysOfErrors(t *testing.T) {
	w, l := roomy(9), roomySamples()
	bad := append(roomySamples(), seen(1, top, top))
	for name, call := range map[string]func(){
		"Check":  func() { mlp.Check(1, 2, w, l...); mlp.Check(2, 2, w[:1], l...); mlp.Check(2, 2, w, l[:0]...) },
		"Split":  func() { mlp.Split(0, w); mlp.Split(3, w); mlp.Split(8, w) },
		"Bend":   func() { mlp.Bend(append(make([]int64, api.MaxDim), w...)...) },
		"Hidden": func() { mlp.Hidden(2, w[:8], l[0].X, 0); mlp.Hidden(2, w, l[0].X, 31); mlp.Hidden(2, w, bad[2].X, 0) },
		"Tell":   func() { mlp.Tell(3, w, l[0].X, 0); mlp.Tell(2, w, l[0].X, -1); mlp.Tell(2, w, bad[2].X, 0) },
		"Off":    func() { mlp.Off(2, w, bad[2], 0); mlp.Off(2, w[:4], l[0], 0); mlp.Off(2, w, seen(low, l[0].X...), 0) },
		"Grad":   func() { mlp.Grad(2, w, 31, l...); mlp.Grad(2, w, 0, bad...); mlp.Grad(2, w, 0, l[:0]...) },
	} {
		call()
		checkKept(t, name, w)
		checkSamples(t, name, l)
		if !slices.Equal(bad[2].X, list(top, top)) || bad[2].Y != 1 {
			t.Errorf("%s: got %v", name, bad)
		}
	}
}

// fill writes the same number into all of a list, and into the room behind it.
func fill(v []int64, n int64) {
	for i := range v[:cap(v)] {
		v[:cap(v)][i] = n
	}
}

// R2: lines, and the last one, are new, and share nothing with what they were cut from, nor with each other.
func TestLinesAreNew(t *testing.T) {
	for _, hid := range []int{1, 2} {
		w := roomy(9)
		if hid == 1 {
			w = roomy(8)
		}
		first, last, e := mlp.Split(hid, w)
		again, rest, _ := mlp.Split(hid, w)
		if len(first) != hid || e != api.OK {
			t.Fatalf("%d: got %v, %d", hid, first, e)
		}
		all := append(slices.Clone(first), last)
		for i, line := range all {
			fill(line, int64(-i))
		}
		for i, line := range all {
			if !slices.Equal(line, many(len(line), int64(-i))) {
				t.Errorf("%d: what is written into a line is in another one: %v", hid, all)
			}
		}
		checkKept(t, "Split", w)
		n := len(w)
		fill(w, 7)
		if got := append(slices.Concat(again...), rest...); !slices.Equal(got, roomy(n)) {
			t.Errorf("%d: what is written elsewhere is in lines: %v, %v", hid, again, rest)
		}
	}
}

// checkNew tells when what a call answers shares anything with what it was handed, or with what it answers again.
func checkNew(t *testing.T, name string, call func(w []int64, l []api.Sample) ([]int64, api.Errno)) {
	t.Helper()
	w, l := roomy(9), roomySamples()
	first, e := call(w, l)
	again, _ := call(w, l)
	want := slices.Clone(first)
	if len(first) == 0 || e != api.OK {
		t.Fatalf("%s: got %v, %d", name, first, e)
	}
	fill(first, 5)
	checkKept(t, name, w)
	checkSamples(t, name, l)
	for _, v := range [][]int64{w, l[0].X, l[1].X} {
		fill(v, 6)
	}
	if !slices.Equal(again, want) {
		t.Errorf("%s: what is written elsewhere is in the answer: %v, not %v", name, again, want)
	}
}

// R2: what is bent, what is hidden, and how layers are to be bent, by two samples or one, are new.
func TestWhatIsToldIsNew(t *testing.T) {
	checkNew(t, "Bend", func(w []int64, _ []api.Sample) ([]int64, api.Errno) { return mlp.Bend(w...) })
	checkNew(t, "positive", func(w []int64, _ []api.Sample) ([]int64, api.Errno) { return mlp.Bend(w[4:7]...) })
	checkNew(t, "Hidden", func(w []int64, l []api.Sample) ([]int64, api.Errno) { return mlp.Hidden(2, w, l[0].X, 4) })
	checkNew(t, "Grad", func(w []int64, l []api.Sample) ([]int64, api.Errno) { return mlp.Grad(2, w, 4, l...) })
	checkNew(t, "one", func(w []int64, l []api.Sample) ([]int64, api.Errno) { return mlp.Grad(2, w, 4, l[:1]...) })
}

// R5: however many call at once, with the same layers and samples, all get the same.
func TestSideBySide(t *testing.T) {
	w, l := roomy(9), roomySamples()
	want, e := mlp.Grad(2, w, 5, l...)
	off, f := mlp.Off(2, w, l[0], 5)
	hidden, g := mlp.Hidden(2, w, l[1].X, 5)
	if e != api.OK || f != api.OK || g != api.OK {
		t.Fatalf("got %d, %d, %d", e, f, g)
	}
	got, are := make([][]int64, 50), make([]bool, 50)
	var all sync.WaitGroup
	for i := range got {
		all.Go(func() {
			got[i], _ = mlp.Grad(2, w, 5, l...)
			n, _ := mlp.Off(2, w, l[0], 5)
			v, _ := mlp.Hidden(2, w, l[1].X, 5)
			lines, last, _ := mlp.Split(2, w)
			are[i] = n == off && slices.Equal(v, hidden) && slices.Equal(append(slices.Concat(lines...), last...), w)
		})
	}
	all.Wait()
	for i, v := range got {
		if !slices.Equal(v, want) || !are[i] {
			t.Errorf("%d: got %v", i, v)
		}
	}
	checkKept(t, "side by side", w)
	checkSamples(t, "side by side", l)
}
