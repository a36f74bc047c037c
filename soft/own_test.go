package soft_test

import (
	"slices"
	"sync"
	"testing"

	"thrum/api"
	"thrum/soft"
)

// roomy are the first of some numbers; those behind them are the caller's, too: a call might write into them.
func roomy(n int) []int64 { return list(20, -3, 5, -12, 9, 2, 88, -99, 111)[:n] }

// checkKept tells when those, or the room behind them, are not as they were.
func checkKept(t *testing.T, name string, l ...[]int64) {
	t.Helper()
	for i, v := range l {
		if got := v[:cap(v)]; !slices.Equal(got, roomy(9)) {
			t.Errorf("%s: %d: got %v", name, i, got)
		}
	}
}

// roomySamples are two samples, with room behind them and behind what they see.
func roomySamples() []api.Sample {
	return append(make([]api.Sample, 0, 5), api.Sample{X: roomy(2), Y: 1}, api.Sample{X: roomy(2)})
}

// checkSamples tells when those, or the room behind them, are not as they were.
func checkSamples(t *testing.T, name string, l []api.Sample) {
	t.Helper()
	checkKept(t, name, l[0].X, l[1].X)
	if len(l[0].X) != 2 || len(l[1].X) != 2 || l[0].Y != 1 || l[1].Y != 0 {
		t.Errorf("%s: got %v", name, l)
	}
	for _, s := range l[2:cap(l)] {
		if s.X != nil || s.Y != 0 {
			t.Errorf("%s: got %v", name, l[:cap(l)])
		}
	}
}

// R2: what is handed in stays as it is, and what stands behind it.
func TestWhatIsHandedInStays(t *testing.T) {
	w, l := roomy(6), roomySamples()
	for name, call := range map[string]func() api.Errno{
		"Check": func() api.Errno { return soft.Check(2, 2, w, l...) },
		"Rows":  func() api.Errno { _, e := soft.Rows(2, w); return e },
		"Tell":  func() api.Errno { _, e := soft.Tell(2, w, l[0].X, 4); return e },
		"Class": func() api.Errno { _, e := soft.Class(2, w, l[0].X, 4); return e },
		"Off":   func() api.Errno { _, e := soft.Off(2, w, l[1], 4); return e },
		"Grad":  func() api.Errno { _, e := soft.Grad(2, w, 4, l...); return e },
		"one":   func() api.Errno { _, e := soft.Grad(2, w, 4, l[:1]...); return e },
		"Right": func() api.Errno { _, e := soft.Right(2, w, 4, l...); return e },
	} {
		if e := call(); e != api.OK {
			t.Errorf("%s: got %d", name, e)
		}
		checkKept(t, name, w)
		checkSamples(t, name, l)
	}
}

// R2: also where a call goes wrong, be it midway.
func TestWhatIsHandedInStaysOfErrors(t *testing.T) {
	w, l := roomy(6), roomySamples()
	bad := append(roomySamples(), seen(1, top, top))
	for name, call := range map[string]func(){
		"Check": func() { soft.Check(1, 2, w, l...); soft.Check(2, 2, w[:1], l...); soft.Check(2, 2, w, l[:0]...) },
		"Rows":  func() { soft.Rows(1, w); soft.Rows(4, w); soft.Rows(6, w) },
		"Tell":  func() { soft.Tell(2, w[:5], l[0].X, 0); soft.Tell(2, w, l[0].X, 31); soft.Tell(2, w, bad[2].X, 0) },
		"Class": func() { soft.Class(3, w, l[0].X, 0); soft.Class(2, w, l[0].X, -1); soft.Class(2, w, bad[2].X, 0) },
		"Off":   func() { soft.Off(2, w, bad[2], 0); soft.Off(2, w[:4], l[0], 0); soft.Off(2, w, seen(2, l[0].X...), 0) },
		"Grad":  func() { soft.Grad(2, w, 31, l...); soft.Grad(2, w, 0, bad...); soft.Grad(2, w, 0, l[:0]...) },
		"Right": func() { soft.Right(2, w, 31, l...); soft.Right(2, w, 0, bad...); soft.Right(2, w[:4], 0, l...) },
	} {
		call()
		checkKept(t, name, w)
		checkSamples(t, name, l)
		if !slices.Equal(bad[2].X, list(top, top)) || bad[2].Y != 1 {
			t.Errorf("%s: got %v", name, bad)
		}
	}
}

// fill writes the same number into all of a list, and into the room behind it.
func fill(v []int64, n int64) {
	for i := range v[:cap(v)] {
		v[:cap(v)][i] = n
	}
}

// R2: lines are new, and share nothing with what they were cut from, nor with each other.
func TestRowsAreNew(t *testing.T) {
	for _, out := range []int{2, 3} {
		w := roomy(6)
		first, e := soft.Rows(out, w)
		again, _ := soft.Rows(out, w)
		if len(first) != out || e != api.OK {
			t.Fatalf("%d: got %v, %d", out, first, e)
		}
		for i, line := range first {
			fill(line, int64(-i))
		}
		for i, line := range first {
			if !slices.Equal(line, many(6/out, int64(-i))) {
				t.Errorf("%d: what is written into a line is in another one: %v", out, first)
			}
		}
		checkKept(t, "Rows", w)
		fill(w, 7)
		if got := slices.Concat(again...); !slices.Equal(got, roomy(6)) {
			t.Errorf("%d: what is written elsewhere is in lines: %v", out, again)
		}
	}
}

// checkNew tells when what a call answers shares anything with what it was handed, or with what it answers again.
func checkNew(t *testing.T, name string, call func(w []int64, l []api.Sample) ([]int64, api.Errno)) {
	t.Helper()
	w, l := roomy(6), roomySamples()
	first, e := call(w, l)
	again, _ := call(w, l)
	want := slices.Clone(first)
	if len(first) == 0 || e != api.OK {
		t.Fatalf("%s: got %v, %d", name, first, e)
	}
	fill(first, 5)
	checkKept(t, name, w)
	checkSamples(t, name, l)
	for _, v := range [][]int64{w, l[0].X, l[1].X} {
		fill(v, 6)
	}
	if !slices.Equal(again, want) {
		t.Errorf("%s: what is written elsewhere is in the answer: %v, not %v", name, again, want)
	}
}

// R2: shares, what a sample is off, and how lines are to be bent, by two samples or one, are new.
func TestWhatIsToldIsNew(t *testing.T) {
	checkNew(t, "Tell", func(w []int64, l []api.Sample) ([]int64, api.Errno) { return soft.Tell(2, w, l[0].X, 4) })
	checkNew(t, "Off", func(w []int64, l []api.Sample) ([]int64, api.Errno) { return soft.Off(2, w, l[0], 4) })
	checkNew(t, "Grad", func(w []int64, l []api.Sample) ([]int64, api.Errno) { return soft.Grad(2, w, 4, l...) })
	checkNew(t, "one", func(w []int64, l []api.Sample) ([]int64, api.Errno) { return soft.Grad(2, w, 4, l[:1]...) })
}

// R5: however many call at once, with the same lines and samples, all get the same.
func TestSideBySide(t *testing.T) {
	w, l := roomy(6), roomySamples()
	want, e := soft.Grad(2, w, 5, l...)
	off, f := soft.Off(2, w, l[0], 5)
	right, g := soft.Right(2, w, 5, l...)
	if e != api.OK || f != api.OK || g != api.OK {
		t.Fatalf("got %d, %d, %d", e, f, g)
	}
	got, are := make([][]int64, 50), make([]bool, 50)
	var all sync.WaitGroup
	for i := range got {
		all.Go(func() {
			got[i], _ = soft.Grad(2, w, 5, l...)
			one, _ := soft.Off(2, w, l[0], 5)
			n, _ := soft.Right(2, w, 5, l...)
			lines, _ := soft.Rows(2, w)
			are[i] = slices.Equal(one, off) && n == right && slices.Equal(slices.Concat(lines...), w)
		})
	}
	all.Wait()
	for i, v := range got {
		if !slices.Equal(v, want) || !are[i] {
			t.Errorf("%d: got %v", i, v)
		}
	}
	checkKept(t, "side by side", w)
	checkSamples(t, "side by side", l)
}
