package leb_test

import (
	"bytes"
	"slices"
	"testing"

	"thrum/leb"
)

// roomy is a text with room behind it, which a call might write into.
func roomy(b ...byte) []byte {
	return append(make([]byte, 0, len(b)+40), b...)
}

// checkKept tells when a roomy text, or the room behind it, is not as it was.
func checkKept(t *testing.T, name string, b []byte, want ...byte) {
	t.Helper()
	room := append(slices.Clone(want), make([]byte, cap(b)-len(b))...)
	if !bytes.Equal(b[:cap(b)], room) {
		t.Errorf("%s: got %v, was %v", name, b[:cap(b)], room)
	}
}

// R2: what is put behind a text stands in a new one.
func TestTextsToldAreNew(t *testing.T) {
	for name, call := range map[string]func(b []byte) []byte{
		"Put of none":     func(b []byte) []byte { return leb.Put(b) },
		"Put of one":      func(b []byte) []byte { return leb.Put(b, 300) },
		"Put of three":    func(b []byte) []byte { return leb.Put(b, 1, most, 2) },
		"Signed of none":  func(b []byte) []byte { return leb.Signed(b) },
		"Signed of one":   func(b []byte) []byte { return leb.Signed(b, -300) },
		"Signed of three": func(b []byte) []byte { return leb.Signed(b, 1, low, 2) },
	} {
		b := roomy(4, 5, 6)
		got := call(b)
		checkKept(t, name, b, 4, 5, 6)
		was := slices.Clone(got)
		for i := range b[:cap(b)] {
			b[:cap(b)][i] = 100
		}
		if !bytes.Equal(got, was) {
			t.Errorf("%s: what is written into the argument is in the answer: %v", name, got)
		}
		got = append(got, 200)
		for i := range got {
			got[i] = 200
		}
		if !bytes.Equal(b[:cap(b)], run(cap(b), 100)) {
			t.Errorf("%s: what is written into the answer is in the argument: %v", name, b)
		}
	}
}

// R2: two answers of one text share nothing.
func TestTextsToldShareNothing(t *testing.T) {
	b := roomy(1, 2)
	first, second := leb.Put(b, 3), leb.Put(b, 4)
	if !bytes.Equal(first, text(1, 2, 3)) || !bytes.Equal(second, text(1, 2, 4)) {
		t.Errorf("got %v, %v", first, second)
	}
	third := leb.Put(first, 5)
	first[0] = 9
	if !bytes.Equal(third, text(1, 2, 3, 5)) {
		t.Errorf("got %v", third)
	}
}

// R2: numbers that are put stay as they are.
func TestNumbersPutStay(t *testing.T) {
	n, s := []uint64{0, 300, most}, []int64{low, -300, top}
	leb.Put(nil, n...)
	leb.Signed(nil, s...)
	if !slices.Equal(n, []uint64{0, 300, most}) || !slices.Equal(s, []int64{low, -300, top}) {
		t.Errorf("got %v, %v", n, s)
	}
}

// R2: a text that is read stays as it is, also where it is no code.
func TestTextsReadStay(t *testing.T) {
	for _, l := range [][]byte{
		text(172, 2, 0, 7),
		text(7, 128, 0, 7),
		text(7, 128),
		run(9, 255, 1),
		run(9, 255, 2),
	} {
		b := roomy(l...)
		leb.Get(b, 0)
		leb.Get(b, 1)
		leb.Take(b, 0)
		leb.Many(b, 0, 3)
		leb.Many(b, 0, 9)
		checkKept(t, "read", b, l...)
	}
}

// R2: numbers that are told are the caller's own.
func TestNumbersToldAreNew(t *testing.T) {
	b := text(172, 2, 0, 7)
	first, _, _ := leb.Many(b, 0, 3)
	for i := range first {
		first[i] = 9
	}
	if got := of(leb.Many(b, 0, 3)); !got.is(good[uint64](4, 300, 0, 7)) {
		t.Errorf("got %v", got)
	}
	second, _, _ := leb.Many(b, 0, 3)
	b[0] = 255
	if !slices.Equal(second, []uint64{300, 0, 7}) {
		t.Errorf("got %v", second)
	}
}
