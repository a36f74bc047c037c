package model_test

import (
	"slices"
	"sync"
	"testing"

	"thrum/api"
	"thrum/model"
)

// roomy are the first of some numbers; those behind them are the caller's, too: a call might write into them.
func roomy(n int) []int64 { return list(20, -3, 5, -12, 90, 2, 8, -9, 11, 77, -66, 55)[:n] }

// checkKept tells when those, or the room behind them, are not as they were.
func checkKept(t *testing.T, name string, l ...[]int64) {
	t.Helper()
	for i, v := range l {
		if got := v[:cap(v)]; !slices.Equal(got, roomy(12)) {
			t.Errorf("%s: %d: got %v", name, i, got)
		}
	}
}

// roomySamples are two samples, with room behind them and behind what they see.
func roomySamples() []api.Sample {
	return append(make([]api.Sample, 0, 5), api.Sample{X: roomy(2), Y: 1}, api.Sample{X: roomy(2)})
}

// checkSamples tells when those, or the room behind them, are not as they were.
func checkSamples(t *testing.T, name string, l []api.Sample) {
	t.Helper()
	checkKept(t, name, l[0].X, l[1].X)
	if len(l[0].X) != 2 || len(l[1].X) != 2 || l[0].Y != 1 || l[1].Y != 0 {
		t.Errorf("%s: got %v", name, l)
	}
	for _, s := range l[2:cap(l)] {
		if s.X != nil || s.Y != 0 {
			t.Errorf("%s: got %v", name, l[:cap(l)])
		}
	}
}

// owns are models of each kind that see two numbers and have no more than there are roomy ones.
func owns() map[string]api.Model {
	return map[string]api.Model{"a line": line(2, 4), "classes": classes(2, 3, 4), "layers": layers(2, 2, 4)}
}

// R2: what is handed in stays as it is, and what stands behind it.
func TestWhatIsHandedInStays(t *testing.T) {
	for kind, m := range owns() {
		w, l := roomy(numbers(m)), roomySamples()
		for name, call := range map[string]func() api.Errno{
			"Fits":  func() api.Errno { return model.Fits(m, w, l...) },
			"Tell":  func() api.Errno { _, e := model.Tell(m, w, l[0].X); return e },
			"Grad":  func() api.Errno { _, e := model.Grad(m, w, l...); return e },
			"one":   func() api.Errno { _, e := model.Grad(m, w, l[:1]...); return e },
			"Clip":  func() api.Errno { _, e := model.Clip(m, w, 3, l...); return e },
			"whole": func() api.Errno { _, e := model.Clip(m, w, top, l[:1]...); return e },
		} {
			if e := call(); e != api.OK {
				t.Errorf("%s, %s: got %d", kind, name, e)
			}
			checkKept(t, kind+", "+name, w)
			checkSamples(t, kind+", "+name, l)
		}
	}
}

// R2: also where a call goes wrong, be it midway.
func TestWhatIsHandedInStaysOfErrors(t *testing.T) {
	for kind, m := range owns() {
		w, l := roomy(numbers(m)), roomySamples()
		bad, none := append(roomySamples(), seen(1, low, low)), m
		none.Kind = 3
		for name, call := range map[string]func(){
			"Fits": func() { model.Fits(none, w, l...); model.Fits(m, w[:1], l...); model.Fits(m, w, l[:0]...) },
			"Tell": func() { model.Tell(none, w, l[0].X); model.Tell(m, w[:2], l[0].X); model.Tell(m, w, bad[2].X) },
			"Grad": func() { model.Grad(none, w, l...); model.Grad(m, w, bad...); model.Grad(m, w[:2], l...) },
			"Clip": func() { model.Clip(none, w, 1, l...); model.Clip(m, w, 1, bad...); model.Clip(m, w, -1, l...) },
		} {
			call()
			checkKept(t, kind+", "+name, w)
			checkSamples(t, kind+", "+name, l)
			if !slices.Equal(bad[2].X, list(low, low)) || bad[2].Y != 1 {
				t.Errorf("%s, %s: got %v", kind, name, bad)
			}
		}
	}
}

// fill writes the same number into all of a list, and into the room behind it.
func fill(v []int64, n int64) {
	for i := range v[:cap(v)] {
		v[:cap(v)][i] = n
	}
}

// checkNew tells when what a call answers shares anything with what it was handed, or with what it answers again.
func checkNew(t *testing.T, name string, m api.Model, call func(w []int64, l []api.Sample) ([]int64, api.Errno)) {
	t.Helper()
	w, l := roomy(numbers(m)), roomySamples()
	first, e := call(w, l)
	again, _ := call(w, l)
	want := slices.Clone(first)
	if len(first) == 0 || e != api.OK {
		t.Fatalf("%s: got %v, %d", name, first, e)
	}
	fill(first, 5)
	checkKept(t, name, w)
	checkSamples(t, name, l)
	for _, v := range [][]int64{w, l[0].X, l[1].X} {
		fill(v, 6)
	}
	if !slices.Equal(again, want) {
		t.Errorf("%s: what is written elsewhere is in the answer: %v, not %v", name, again, want)
	}
}

// R2: what is told, how a model is to be bent, clipped or not, and how it begins, is new.
func TestWhatIsToldIsNew(t *testing.T) {
	for kind, m := range owns() {
		for name, call := range map[string]func(w []int64, l []api.Sample) ([]int64, api.Errno){
			"Tell":  func(w []int64, l []api.Sample) ([]int64, api.Errno) { return model.Tell(m, w, l[0].X) },
			"Grad":  func(w []int64, l []api.Sample) ([]int64, api.Errno) { return model.Grad(m, w, l...) },
			"one":   func(w []int64, l []api.Sample) ([]int64, api.Errno) { return model.Grad(m, w, l[:1]...) },
			"Clip":  func(w []int64, l []api.Sample) ([]int64, api.Errno) { return model.Clip(m, w, 3, l...) },
			"whole": func(w []int64, l []api.Sample) ([]int64, api.Errno) { return model.Clip(m, w, top, l[:1]...) },
			"Start": func(_ []int64, _ []api.Sample) ([]int64, api.Errno) { return model.Start(m, 9) },
		} {
			checkNew(t, kind+", "+name, m, call)
		}
	}
}

// R5: however many call at once, with the same model and samples, all get the same.
func TestSideBySide(t *testing.T) {
	for kind, m := range owns() {
		w, l := roomy(numbers(m)), roomySamples()
		want, e := model.Clip(m, w, 30, l...)
		told, f := model.Tell(m, w, l[0].X)
		begin, g := model.Start(m, 5)
		if e != api.OK || f != api.OK || g != api.OK {
			t.Fatalf("%s: got %d, %d, %d", kind, e, f, g)
		}
		is := make([]bool, 50)
		var all sync.WaitGroup
		for i := range is {
			all.Go(func() {
				bent, _ := model.Clip(m, w, 30, l...)
				tells, _ := model.Tell(m, w, l[0].X)
				start, _ := model.Start(m, 5)
				is[i] = slices.Equal(bent, want) && slices.Equal(tells, told) && slices.Equal(start, begin) &&
					model.Fits(m, w, l...) == api.OK
			})
		}
		all.Wait()
		if slices.Contains(is, false) {
			t.Errorf("%s: got %v", kind, is)
		}
		checkKept(t, kind, w)
		checkSamples(t, kind, l)
	}
}
