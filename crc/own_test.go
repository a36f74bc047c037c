package crc_test

import (
	"bytes"
	"slices"
	"sync"
	"testing"

	"thrum/api"
	"thrum/crc"
)

// roomy is a text with room behind it, which a call might write into.
func roomy(b []byte) []byte {
	return append(make([]byte, 0, len(b)+40), b...)
}

// whole is a roomy text with the room behind it.
func whole(b []byte) []byte { return b[:cap(b)] }

// calls are those that tell a text.
func calls() map[string]func(b []byte) ([]byte, api.Errno) {
	return map[string]func(b []byte) ([]byte, api.Errno){
		"Seal":              crc.Seal,
		"Open":              crc.Open,
		"Turn of the first": func(b []byte) ([]byte, api.Errno) { return crc.Turn(b, 0) },
		"Turn of the last":  func(b []byte) ([]byte, api.Errno) { return crc.Turn(b, 8*len(b)-1) },
	}
}

// nineSealed is a text of which each of the calls tells another one.
func nineSealed() []byte {
	return sealed([]byte("123456789"), 0x26, 0x39, 0xf4, 0xcb)
}

// R2: a text that is handed in stays as it is, and so does the room behind it.
func TestTextsHandedInStay(t *testing.T) {
	for name, call := range calls() {
		for _, was := range [][]byte{nineSealed(), text(1, 2, 3, 4), text(0, 0, 0, 0)} {
			b := roomy(was)
			call(b)
			crc.Sum(b...)
			crc.More(7, b...)
			crc.Turn(b, -1)
			if want := append(slices.Clone(was), make([]byte, 40)...); !bytes.Equal(whole(b), want) {
				t.Errorf("%s: got %v, was %v", name, whole(b), want)
			}
		}
	}
}

// R2: what is told is new: it shares nothing with what was handed in.
func TestTextsToldAreNew(t *testing.T) {
	for name, call := range calls() {
		b := roomy(nineSealed())
		got, e := call(b)
		if e != api.OK || len(got) == 0 {
			t.Fatalf("%s: got %v, %d", name, got, e)
		}
		was := slices.Clone(got)
		copy(whole(b), many(cap(b), 100))
		if !bytes.Equal(got, was) {
			t.Errorf("%s: what is written into the argument is in the answer: %v", name, got)
		}
		copy(whole(got), many(cap(got), 200))
		if !bytes.Equal(whole(b), many(cap(b), 100)) {
			t.Errorf("%s: what is written into the answer is in the argument: %v", name, whole(b))
		}
	}
}

// R2: what is put behind what was opened does not come to stand in what was handed in.
func TestRoomBehindWhatIsToldIsNew(t *testing.T) {
	for _, was := range [][]byte{nineSealed(), text(0, 0, 0, 0)} {
		b := slices.Clone(was)
		got, e := crc.Open(b)
		if got = append(got, 9); e != api.OK || !bytes.Equal(b, was) {
			t.Errorf("got %v, %d, was %v", b, e, was)
		}
	}
}

// R2: two answers share nothing.
func TestTextsToldShareNothing(t *testing.T) {
	for name, call := range calls() {
		b := nineSealed()
		first, _ := call(b)
		second, _ := call(b)
		was := slices.Clone(second)
		copy(whole(first), many(cap(first), 200))
		if !bytes.Equal(second, was) {
			t.Errorf("%s: got %v, not %v", name, second, was)
		}
	}
}

// R5: sums are the same however often they are asked for, and by however many at once.
func TestSumsSideBySide(t *testing.T) {
	b := mixed(5000, 3)
	want := plain(b)
	got := make([]uint32, 50)
	var all sync.WaitGroup
	for i := range got {
		all.Go(func() { got[i] = crc.Sum(b...) })
	}
	all.Wait()
	for i, sum := range got {
		if sum != want {
			t.Errorf("%d: got %x, not %x", i, sum, want)
		}
	}
}
