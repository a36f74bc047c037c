package index_test

import (
	"slices"
	"testing"

	"thrum/api"
	"thrum/index"
)

// coded are places of a dimension, and their code.
type coded struct {
	dim int
	l   []int
	b   []byte
}

func codes() []coded {
	return []coded{
		{9, list(1, 2, 5), text(3, 1, 0, 2)},
		{6, list(1, 2, 5), text(3, 1, 0, 2)},
		{1, nil, text(0)},
		{1, list(0), text(1, 0)},
		{5, nil, text(0)},
		{4096, nil, text(0)},
		{5, list(4), text(1, 4)},
		{5, list(0, 4), text(2, 0, 3)},
		{5, list(0, 1), text(2, 0, 0)},
		{3, list(0, 1, 2), text(3, 0, 0, 0)},
		{128, list(127), text(1, 127)},
		{129, list(128), text(1, 128, 1)},
		{300, list(0, 128), text(2, 0, 127)},
		{300, list(0, 129), text(2, 0, 128, 1)},
		{301, list(300), text(1, 172, 2)},
		{4096, list(4095), text(1, 255, 31)},
		{4096, list(200, 4095), text(2, 200, 1, 182, 30)},
		{4096, list(0, 4095), text(2, 0, 254, 31)},
		{127, upTo(0, 127), append(text(127), make([]byte, 127)...)},
		{128, upTo(0, 128), append(text(128, 1), make([]byte, 128)...)},
		{4096, upTo(0, 4096), append(text(128, 32), make([]byte, 4096)...)},
		{4096, upTo(1, 4096), append(text(255, 31, 1), make([]byte, 4094)...)},
	}
}

// P6.2: Put, and Get, of whatever stands ahead and behind.
func TestCodes(t *testing.T) {
	for _, x := range codes() {
		if got, want := of(index.Put(x.dim, x.l...)), good(x.b...); !got.is(want) {
			t.Errorf("Put(%d, %v): got %v, not %v", x.dim, good(x.l...).brief(), got.brief(), want.brief())
		}
		for _, ahead := range [][]byte{nil, text(7), text(0, 0), text(128, 128, 255)} {
			for _, behind := range [][]byte{nil, text(0), text(128), text(255, 255, 0)} {
				b := slices.Concat(ahead, x.b, behind)
				got, want := placed(index.Get(x.dim, b, len(ahead))), goodAt(len(ahead)+len(x.b), x.l...)
				if !got.is(want) {
					t.Errorf("Get(%d, %v, %d): got %v, not %v", x.dim, good(b...).brief(), len(ahead), got.brief(), want.brief())
				}
			}
		}
	}
}

// P6.2: Put's error is Check's.
func TestPutErrors(t *testing.T) {
	for _, dim := range noDims() {
		checkAll(t, []example[byte]{
			{"a dimension that may not be", of(index.Put(dim, 0)), bad[byte](api.ErrArg)},
			{"a dimension that may not be, of none", of(index.Put(dim)), bad[byte](api.ErrArg)},
		})
	}
	for _, l := range none() {
		if got := of(index.Put(5, l...)); !got.is(bad[byte](api.ErrArg)) {
			t.Errorf("Put(5, %v): got %v", l, got)
		}
	}
	if got := of(index.Put(4096, upTo(0, 4097)...)); !got.is(bad[byte](api.ErrArg)) {
		t.Errorf("Put of too many: got %v", got.brief())
	}
}

// P6.2: Get of a dimension that may not be, ahead of all other errors.
func TestGetDimension(t *testing.T) {
	for _, dim := range noDims() {
		for _, b := range [][]byte{nil, {0}, {1, 0}, {128}, {128, 0}, {255, 255, 3, 0}} {
			for _, at := range []int{-1, 0, 1, 9, low, top} {
				if got := placed(index.Get(dim, b, at)); !got.is(bad[int](api.ErrArg)) {
					t.Errorf("Get(%d, %v, %d): got %v", dim, b, at, got)
				}
			}
		}
	}
}

// P6.2: Get of a place at which nothing can stand.
func TestGetPlace(t *testing.T) {
	checkAll(t, []example[int]{
		{"below 0", placed(index.Get(3, text(0), -1)), bad[int](api.ErrArg)},
		{"below 0, in nothing", placed(index.Get(3, nil, -1)), bad[int](api.ErrArg)},
		{"far below 0", placed(index.Get(3, text(1, 0), low)), bad[int](api.ErrArg)},
		{"below 0, in what is no code", placed(index.Get(3, text(9, 9), -1)), bad[int](api.ErrArg)},
		{"in nothing", placed(index.Get(3, nil, 0)), bad[int](api.ErrShort)},
		{"in an empty text", placed(index.Get(3, text(), 0)), bad[int](api.ErrShort)},
		{"at the end", placed(index.Get(3, text(0), 1)), bad[int](api.ErrShort)},
		{"behind the end", placed(index.Get(3, text(0), 2)), bad[int](api.ErrShort)},
		{"far behind the end", placed(index.Get(3, text(0), top)), bad[int](api.ErrShort)},
	})
}

// P6.2: Get's errors, each as soon as it is there.
func TestGetErrors(t *testing.T) {
	great, greater := text(255, 255, 255, 255, 255, 255, 255, 255, 255, 1), text(255, 255, 255, 255, 255, 255, 255, 255, 255, 2)
	for _, x := range []struct {
		call string
		dim  int
		b    []byte
		want api.Errno
	}{
		{"how many ends too soon", 3, text(128), api.ErrShort},
		{"how many ends too soon, as great as may be", 4096, text(255), api.ErrShort},
		{"how many is no code", 3, text(128, 0), api.ErrForm},
		{"how many is no code, and more behind", 3, text(129, 0, 1, 1), api.ErrForm},
		{"how many has more than 64 bits", 4096, greater, api.ErrForm},
		{"one more than the dimension", 3, text(4), api.ErrForm},
		{"one more than the dimension, and all behind", 3, text(4, 0, 0, 0, 0), api.ErrForm},
		{"one more than the dimension of 1", 1, text(2, 0, 0), api.ErrForm},
		{"one more than the greatest dimension", 4096, text(129, 32), api.ErrForm},
		{"one more than the greatest dimension, and all behind", 4096, append(text(129, 32), make([]byte, 4097)...), api.ErrForm},
		{"far more than the dimension", 3, text(255, 127), api.ErrForm},
		{"as many as can be", 4096, great, api.ErrForm},
		{"as many as can be, of signed ones", 4096, text(255, 255, 255, 255, 255, 255, 255, 255, 127), api.ErrForm},
		{"as many as turn below 0", 4096, text(128, 128, 128, 128, 128, 128, 128, 128, 128, 1), api.ErrForm},
		{"as many as 32 bits cut to 0", 4096, text(128, 128, 128, 128, 16), api.ErrForm},
		{"more than the dimension, and a place that is no code", 3, text(4, 128, 0), api.ErrForm},
		{"no place", 3, text(1), api.ErrShort},
		{"no place of as many as may be", 4096, text(128, 32), api.ErrShort},
		{"a place ends too soon", 200, text(1, 128), api.ErrShort},
		{"a place ends too soon, as great as may be", 4, text(1, 255), api.ErrShort},
		{"one place less", 3, text(2, 0), api.ErrShort},
		{"the second ends too soon", 300, text(2, 0, 200), api.ErrShort},
		{"a place is no code", 3, text(1, 128, 0), api.ErrForm},
		{"a place has more than 64 bits", 4096, append(text(1), greater...), api.ErrForm},
		{"the second is no code", 3, text(2, 0, 129, 0), api.ErrForm},
		{"the first is the dimension", 3, text(1, 3), api.ErrForm},
		{"the first is above the dimension", 3, text(1, 4), api.ErrForm},
		{"the first is the dimension of 1", 1, text(1, 1), api.ErrForm},
		{"the first is the greatest dimension", 4096, text(1, 128, 32), api.ErrForm},
		{"the second is the dimension", 3, text(2, 1, 1), api.ErrForm},
		{"the second is the dimension, next to the first", 3, text(2, 2, 0), api.ErrForm},
		{"the third is the dimension", 3, text(3, 0, 1, 0), api.ErrForm},
		{"the last of as many as may be", 4096, append(append(text(128, 32), make([]byte, 4095)...), 1), api.ErrForm},
		{"a place as great as can be", 3, append(text(1), great...), api.ErrForm},
		{"a second as great as can be, so that it goes around", 3, append(text(2, 1), great...), api.ErrForm},
		{"a second that goes around to 0", 3, append(text(2, 1, 254), great[1:]...), api.ErrForm},
		{"a second that goes over by 1", 3, text(2, 0, 255, 255, 255, 255, 255, 255, 255, 255, 127), api.ErrForm},
		{"a second that turns below 0", 9, text(2, 4, 128, 128, 128, 128, 128, 128, 128, 128, 128, 1), api.ErrForm},
		{"a second that 32 bits cut to 0", 9, text(2, 4, 128, 128, 128, 128, 16), api.ErrForm},
		{"a place not below, and then too few", 3, text(2, 3), api.ErrForm},
		{"a place not below, and then one that is no code", 3, text(2, 5, 128, 0), api.ErrForm},
		{"a place not below, and then one that ends too soon", 3, text(2, 5, 128), api.ErrForm},
		{"no room for the second, which is not there", 3, text(2, 2), api.ErrShort},
		{"no room for the second, which ends too soon", 3, text(2, 2, 128), api.ErrShort},
		{"no room for the third, and the second not there", 3, text(3, 1), api.ErrShort},
		{"no room for the third", 3, text(3, 1, 0, 0), api.ErrForm},
		{"no room for the third, which is not there", 3, text(3, 1, 0), api.ErrShort},
	} {
		for _, ahead := range [][]byte{nil, text(0), text(128, 255)} {
			b := slices.Concat(ahead, x.b)
			if got := placed(index.Get(x.dim, b, len(ahead))); !got.is(bad[int](x.want)) {
				t.Errorf("%s, behind %d: got %v, not %d", x.call, len(ahead), got.brief(), x.want)
			}
		}
	}
}
