package vec_test

import (
	"slices"
	"testing"

	"thrum/api"
	"thrum/vec"
)

// roomy is a vector with room behind it, which a call might write into.
func roomy(v ...int64) []int64 {
	return append(make([]int64, 0, 2*len(v)+8), v...)
}

// calls are all calls that tell a vector, of two that are handed in, such that the numbers stay as they are where they can.
func calls() map[string]func(a, b []int64) ([]int64, api.Errno) {
	return map[string]func(a, b []int64) ([]int64, api.Errno){
		"Add":         vec.Add,
		"Sub":         vec.Sub,
		"Scale":       func(a, b []int64) ([]int64, api.Errno) { return vec.Scale(a, 1, 0) },
		"More":        func(a, b []int64) ([]int64, api.Errno) { return vec.More(a, 0, b, 0) },
		"Clip":        func(a, b []int64) ([]int64, api.Errno) { return vec.Clip(a, top) },
		"Sum of one":  func(a, b []int64) ([]int64, api.Errno) { return vec.Sum(a) },
		"Sum of two":  func(a, b []int64) ([]int64, api.Errno) { return vec.Sum(a, b) },
		"Sum of four": func(a, b []int64) ([]int64, api.Errno) { return vec.Sum(a, b, a, b) },
	}
}

// R2: what is handed in stays as it is, and what is told is new.
func TestVectorsToldAreNew(t *testing.T) {
	for name, call := range calls() {
		a, b := roomy(4, -5, 6), roomy(0, 0, 0)
		got, e := call(a, b)
		if e != api.OK {
			t.Errorf("%s: got %d", name, e)
		}
		checkKept(t, name, a, 4, -5, 6)
		checkKept(t, name, b, 0, 0, 0)
		was := slices.Clone(got)
		for i := range a {
			a[i], b[i] = 100, 200
		}
		if !slices.Equal(got, was) {
			t.Errorf("%s: what is written into an argument is in the answer: %v", name, got)
		}
		for i := range got {
			got[i] = 300
		}
		if !slices.Equal(a, many(3, 100)) || !slices.Equal(b, many(3, 200)) {
			t.Errorf("%s: what is written into the answer is in an argument: %v, %v", name, a, b)
		}
	}
}

// checkKept tells when a roomy vector, or the room behind it, is not as it was.
func checkKept(t *testing.T, name string, v []int64, want ...int64) {
	t.Helper()
	room := append(slices.Clone(want), make([]int64, cap(v)-len(v))...)
	if !slices.Equal(v[:cap(v)], room) {
		t.Errorf("%s: got %v, was %v", name, v[:cap(v)], room)
	}
}

// R2: what is handed in stays as it is, also where a call goes wrong midway, and where a number is told.
func TestArgumentsStay(t *testing.T) {
	for name, call := range map[string]func(a, b []int64){
		"Check": func(a, b []int64) { vec.Check(a...) },
		"Same":  func(a, b []int64) { vec.Same(a, b) },
		"Add":   func(a, b []int64) { vec.Add(a, b) },
		"Sub":   func(a, b []int64) { vec.Sub(b, a) },
		"Scale": func(a, b []int64) { vec.Scale(a, 2, 0) },
		"More":  func(a, b []int64) { vec.More(b, 1, a, 0) },
		"Sum":   func(a, b []int64) { vec.Sum(b, a, a) },
		"Dot":   func(a, b []int64) { vec.Dot(a, b, 0) },
		"Size":  func(a, b []int64) { vec.Size(a...) },
		"Most":  func(a, b []int64) { vec.Most(a...) },
		"Clip":  func(a, b []int64) { vec.Clip(a, -1); vec.Clip(a, 0) },
	} {
		a, b := roomy(3, -1, top, low, 5), roomy(1, 2, 3, -4, 6)
		call(a, b)
		checkKept(t, name, a, 3, -1, top, low, 5)
		checkKept(t, name, b, 1, 2, 3, -4, 6)
	}
}

// R2: zeros are the caller's own.
func TestZerosAreNew(t *testing.T) {
	a, _ := vec.Zero(3)
	for i := range a {
		a[i] = 9
	}
	if got := of(vec.Zero(3)); !got.is(good(0, 0, 0)) {
		t.Errorf("got %v", got)
	}
}
