package leb_test

import (
	"bytes"
	"encoding/binary"
	"math/big"
	"slices"
	"testing"

	"thrum/api"
	"thrum/leb"
)

// numbers are those around each power of two, and others between them, rising.
func numbers() []uint64 {
	l := []uint64{0, most}
	for bit := range 64 {
		n := uint64(1) << bit
		l = append(l, n-1, n, n+1)
	}
	// Steps of an odd number that go around reach all bits; halved now and then they reach all sizes.
	n := uint64(0x9e3779b97f4a7c15)
	for i := range uint64(640) {
		n = n*6364136223846793005 + 1442695040888963407
		l = append(l, n>>(i%64))
	}
	slices.Sort(l)
	return slices.Compact(l)
}

// P3.1: codes, and their sizes, are those of another program.
func TestPutIsAsElsewhere(t *testing.T) {
	var all []byte
	for _, n := range numbers() {
		want := binary.AppendUvarint(nil, n)
		if got := leb.Put(nil, n); !bytes.Equal(got, want) {
			t.Errorf("Put(%d): got %v, not %v", n, got, want)
		}
		if got := leb.Size(n); got != len(want) {
			t.Errorf("Size(%d): got %d, not %d", n, got, len(want))
		}
		all = append(all, want...)
	}
	if got := leb.Put(nil, numbers()...); !bytes.Equal(got, all) {
		t.Error("Put of all is another text")
	}
}

// P3.2: signed numbers' codes are those of another program.
func TestSignedIsAsElsewhere(t *testing.T) {
	for _, n := range numbers() {
		for _, s := range []int64{int64(n), -int64(n)} {
			want := binary.AppendVarint(nil, s)
			if got := leb.Signed(nil, s); !bytes.Equal(got, want) {
				t.Errorf("Signed(%d): got %v, not %v", s, got, want)
			}
			if got := one(leb.Take(want, 0)); !got.is(good(len(want), s)) {
				t.Errorf("Take(%v): got %v", want, got)
			}
		}
	}
}

// read tells what Get is to answer of a text: the number of all its bits, without end, and whether its code is that text.
func read(b []byte) answer[uint64] {
	last := slices.IndexFunc(b, func(x byte) bool { return x < 128 })
	switch {
	case last < 0 && len(b) < 10:
		return badOne[uint64](api.ErrShort)
	case last < 0 || last > 9:
		return badOne[uint64](api.ErrForm)
	}
	n := new(big.Int)
	for _, x := range slices.Backward(b[:last+1]) {
		n.Add(n.Lsh(n, 7), big.NewInt(int64(x)&127))
	}
	if !n.IsUint64() || !bytes.Equal(binary.AppendUvarint(nil, n.Uint64()), b[:last+1]) {
		return badOne[uint64](api.ErrForm)
	}
	return good(last+1, n.Uint64())
}

// texts are all of up to two bytes, and longer ones, most of whose bytes stand at an edge.
func texts() [][]byte {
	l := [][]byte{{}}
	for a := range 256 {
		l = append(l, text(byte(a)))
		for b := range 256 {
			l = append(l, text(byte(a), byte(b)))
		}
	}
	last := text(0, 1, 2, 3, 64, 65, 127, 128, 129, 130, 131, 192, 254, 255)
	for size := range 13 {
		for _, x := range text(128, 129, 170, 213, 254, 255) {
			for _, a := range last {
				for _, b := range last {
					l = append(l, run(size, x, a, b))
				}
			}
		}
	}
	return l
}

// P3.1: what is read of a text is the number whose code it begins with, and nothing else is a code.
func TestGetIsAsWithoutEnd(t *testing.T) {
	told := map[api.Errno]int{}
	for _, b := range texts() {
		got, want := one(leb.Get(b, 0)), read(b)
		if !got.is(want) {
			t.Errorf("Get(%v): got %v, not %v", b, got, want)
		}
		told[got.e]++
	}
	if len(told) != 3 {
		t.Errorf("got %v", told)
	}
}

// P3.2: many are read as one is, one behind the other.
func TestManyIsGetAgainAndAgain(t *testing.T) {
	fine, wrong := 0, 0
	for _, b := range texts() {
		for many := range 4 {
			want := good[uint64](0)
			for range many {
				n, at, e := leb.Get(b, want.at)
				if e != api.OK {
					want = bad(e)
					break
				}
				want = good(at, append(want.n, n)...)
			}
			got := of(leb.Many(b, 0, many))
			if !got.is(want) {
				t.Errorf("Many(%v, 0, %d): got %v, not %v", b, many, got, want)
			}
			if got.e == api.OK {
				fine++
			} else {
				wrong++
			}
		}
	}
	if fine == 0 || wrong == 0 {
		t.Errorf("%d are read, %d are not", fine, wrong)
	}
}

// P3.2: Zag is Zig the other way round, and Zig Zag.
func TestZigAndZagTurnEachOther(t *testing.T) {
	for _, n := range numbers() {
		if got := leb.Zig(leb.Zag(n)); got != n {
			t.Errorf("Zig(Zag(%d)): got %d", n, got)
		}
		for _, s := range []int64{int64(n), -int64(n)} {
			if got := leb.Zag(leb.Zig(s)); got != s {
				t.Errorf("Zag(Zig(%d)): got %d", s, got)
			}
		}
	}
}

// P3.2: a signed number's number is twice it, or less 1 of its opposite twice.
func TestZigIsTwice(t *testing.T) {
	for _, n := range numbers() {
		s := int64(n)
		want := new(big.Int).Lsh(big.NewInt(s), 1)
		if s < 0 {
			want.Neg(want).Sub(want, big.NewInt(1))
		}
		if got := new(big.Int).SetUint64(leb.Zig(s)); got.Cmp(want) != 0 {
			t.Errorf("Zig(%d): got %v, not %v", s, got, want)
		}
	}
}

// P3.3: what was put is got, whatever stands ahead, and behind.
func TestWhatWasPutIsGot(t *testing.T) {
	around := [][]byte{nil, text(0), text(128), text(255, 255), text(1, 2, 3), run(12, 128), run(12, 255)}
	for _, n := range numbers() {
		for _, ahead := range around {
			b := leb.Put(ahead, n)
			for _, behind := range around {
				all := slices.Concat(b, behind)
				if got := one(leb.Get(all, len(ahead))); !got.is(good(len(b), n)) {
					t.Errorf("Get(%v, %d): got %v, not %d", all, len(ahead), got, n)
				}
			}
		}
	}
}

// P3.3: what was put together is got together, and what was put signed is taken.
func TestWhatWasPutTogetherIsGot(t *testing.T) {
	all := numbers()
	for i := range all {
		l := all[i:min(len(all), i+9)]
		b := leb.Put(text(200, 200), l...)
		if got := of(leb.Many(append(b, 200), 2, len(l))); !got.is(good(len(b), l...)) {
			t.Errorf("Many(%v): got %v, not %v", b, got, l)
		}
	}
	for i, n := range all {
		l := []int64{int64(n), -int64(n), int64(all[len(all)-1-i])}
		b, at := leb.Signed(text(200, 200), l...), 2
		for _, s := range l {
			got, next, e := leb.Take(b, at)
			if got != s || e != api.OK {
				t.Errorf("Take(%v, %d): got %d, %d, not %d", b, at, got, e, s)
			}
			at = next
		}
		if at != len(b) {
			t.Errorf("Take(%v): got to %d, not %d", b, at, len(b))
		}
	}
}

// P3.3: no code is another one's beginning.
func TestNoCodeBeginsAnother(t *testing.T) {
	all := numbers()
	l := make([][]byte, len(all))
	for i, n := range all {
		l[i] = leb.Put(nil, n)
	}
	for i, a := range l {
		for k, b := range l {
			if i != k && bytes.HasPrefix(b, a) {
				t.Errorf("%d: %v begins %v of %d", all[i], a, b, all[k])
			}
		}
		for cut := range a {
			if got := one(leb.Get(a[:cut], 0)); !got.is(badOne[uint64](api.ErrShort)) {
				t.Errorf("Get(%v): got %v", a[:cut], got)
			}
		}
	}
}

// P3.3: a greater number has no fewer bytes.
func TestGreaterHasNoFewerBytes(t *testing.T) {
	size := 1
	for _, n := range numbers() {
		next := leb.Size(n)
		if next < size || next > 10 {
			t.Errorf("Size(%d): got %d, behind %d", n, next, size)
		}
		if got := len(leb.Put(nil, n)); got != next {
			t.Errorf("Put(%d): got %d bytes, not %d", n, got, next)
		}
		size = next
	}
}
