package plane_test

import (
	"slices"
	"testing"

	"thrum/api"
	"thrum/plane"
)

// roomy is a list with room behind it, which a call might write into.
func roomy[T any](l ...T) []T {
	return append(make([]T, 0, 2*len(l)+8), l...)
}

// checkKept tells when a roomy list, or the room behind it, is not as it was.
func checkKept[T comparable](t *testing.T, name string, l []T, want ...T) {
	t.Helper()
	room := append(slices.Clone(want), make([]T, cap(l)-len(l))...)
	if !slices.Equal(l[:cap(l)], room) {
		t.Errorf("%s: got %v, was %v", name, l[:cap(l)], room)
	}
}

// fill writes x into a list, and into the room behind it.
func fill[T any](l []T, x T) {
	for i := range l[:cap(l)] {
		l[:cap(l)][i] = x
	}
}

// checkOwn tells when a call changes what it is handed, or shares memory with it or with another answer.
func checkOwn[A, B comparable](t *testing.T, name string, call func([]A) ([]B, api.Errno), junk A, other B, was ...A) {
	t.Helper()
	l := roomy(was...)
	got, e := call(l)
	again, _ := call(l)
	checkKept(t, name, l, was...)
	if e != api.OK || len(got) == 0 {
		t.Fatalf("%s: got %v, %d", name, got, e)
	}
	want := slices.Clone(got)
	fill(l, junk)
	if !slices.Equal(got, want) {
		t.Errorf("%s: what is written into the argument is in the answer: %v", name, got)
	}
	fill(got, other)
	if slices.ContainsFunc(l[:cap(l)], func(x A) bool { return x != junk }) {
		t.Errorf("%s: what is written into the answer is in the argument: %v", name, l)
	}
	if !slices.Equal(again, want) {
		t.Errorf("%s: what is written into one answer is in another: %v", name, again)
	}
}

// R2: what is handed in stays as it is, and what is told is new.
func TestListsToldAreNew(t *testing.T) {
	checkOwn(t, "Pack", func(l []uint64) ([]byte, api.Errno) { return plane.Pack(8, l...) }, 77, 99, 1, 2, 3)
	checkOwn(t, "Weave", func(l []uint64) ([]byte, api.Errno) { return plane.Weave(8, l...) }, 77, 99, 1, 2, 3)
	checkOwn(t, "Unpack", func(b []byte) ([]uint64, api.Errno) { return plane.Unpack(8, 3, b) }, 77, 99, 1, 2, 3)
	checkOwn(t, "Unweave", func(b []byte) ([]uint64, api.Errno) { return plane.Unweave(8, 3, b) }, 77, 99, 1, 2, 3)
	checkOwn(t, "Signs", func(l []bool) ([]byte, api.Errno) { return plane.Signs(l...) }, true, 99, false, true, false)
	checkOwn(t, "Read", func(b []byte) ([]bool, api.Errno) { return plane.Read(19, b) }, 255, true, 1, 2, 32)
}

// R2: what is handed in stays as it is, also where a call goes wrong.
func TestArgumentsStay(t *testing.T) {
	l := roomy[uint64](1, 2, 300)
	plane.Pack(8, l...)
	plane.Weave(8, l...)
	plane.Pack(-1, l...)
	checkKept(t, "numbers", l, 1, 2, 300)
	b := roomy[byte](1, 2, 255)
	plane.Unpack(7, 3, b)
	plane.Unweave(7, 3, b)
	plane.Unpack(8, 4, b)
	plane.Read(23, b)
	plane.Read(99, b)
	checkKept(t, "bytes", b, 1, 2, 255)
}
