package crc_test

import (
	"bytes"
	"math"
	"slices"
	"strings"
	"testing"

	"thrum/api"
	"thrum/crc"
)

// answer is what a call tells: a text, and an error.
type answer struct {
	b []byte
	e api.Errno
}

func (a answer) is(b answer) bool {
	return a.e == b.e && bytes.Equal(a.b, b.b)
}

func of(b []byte, e api.Errno) answer { return answer{b: b, e: e} }

func good(b ...byte) answer { return answer{b: b, e: api.OK} }

func bad(e api.Errno) answer { return answer{e: e} }

// example is a call as it is written, what it answers, and what it is to answer.
type example struct {
	call string
	got  answer
	want answer
}

func checkAll(t *testing.T, l []example) {
	t.Helper()
	for _, x := range l {
		if !x.got.is(x.want) {
			t.Errorf("%s: got %v, not %v", x.call, brief(x.got), brief(x.want))
		}
	}
}

// brief is an answer whose text is cut, so that a long one can be told.
func brief(a answer) answer {
	return answer{b: a.b[:min(len(a.b), 20)], e: a.e}
}

// text is a text as it is written.
func text(b ...byte) []byte { return b }

// many is n times the same byte.
func many(n int, x byte) []byte { return bytes.Repeat([]byte{x}, n) }

// sealed is a text, and a sum of four bytes behind it.
func sealed(b []byte, sum ...byte) []byte { return slices.Concat(b, sum) }

// sums are texts, and their sums.
func sums() []struct {
	b   []byte
	sum uint32
} {
	return []struct {
		b   []byte
		sum uint32
	}{
		{nil, 0},
		{text(), 0},
		{text(0), 0xd202ef8d},
		{text(1), 0xa505df1b},
		{text(255), 0xff000000},
		{text(0, 0), 0x41d912ff},
		{text(255, 255), 0xffff0000},
		{text(255, 255, 255), 0xffffff00},
		{many(4, 255), 0xffffffff},
		{many(4, 0), 0x2144df1c},
		{[]byte("a"), 0xe8b7be43},
		{[]byte("abc"), 0x352441c2},
		{[]byte("123456789"), 0xcbf43926},
		{[]byte("The quick brown fox jumps over the lazy dog"), 0x414fa339},
		{many(32, 0), 0x190a55ad},
		{many(32, 255), 0xff6cab0b},
	}
}

// P4.1: Sum.
func TestSum(t *testing.T) {
	for _, x := range sums() {
		if got := crc.Sum(x.b...); got != x.sum {
			t.Errorf("Sum(%v): got %x, not %x", x.b, got, x.sum)
		}
	}
	if got := crc.Sum(); got != 0 {
		t.Errorf("Sum(): got %x", got)
	}
	if got := crc.Sum('1', '2', '3', '4', '5', '6', '7', '8', '9'); got != 0xcbf43926 {
		t.Errorf("Sum of bytes: got %x", got)
	}
}

// P4.1: More.
func TestMore(t *testing.T) {
	for _, x := range []struct {
		call string
		got  uint32
		want uint32
	}{
		{"nothing behind nothing", crc.More(0), 0},
		{"nothing behind something", crc.More(0xcbf43926), 0xcbf43926},
		{"nothing behind four of 255", crc.More(0xffffffff), 0xffffffff},
		{"all behind nothing", crc.More(0, []byte("123456789")...), 0xcbf43926},
		{"the end behind the beginning", crc.More(0x9be3e0a3, []byte("56789")...), 0xcbf43926},
		{"one byte behind a", crc.More(0xe8b7be43, 'b'), crc.Sum('a', 'b')},
		{"one of 0 behind one of 0", crc.More(0xd202ef8d, 0), 0x41d912ff},
		{"one of 255 behind three of 255", crc.More(0xffffff00, 255), 0xffffffff},
	} {
		if x.got != x.want {
			t.Errorf("%s: got %x, not %x", x.call, x.got, x.want)
		}
	}
}

// P4.2: Seal.
func TestSeal(t *testing.T) {
	for _, x := range sums() {
		want := append(slices.Clone(x.b), byte(x.sum), byte(x.sum>>8), byte(x.sum>>16), byte(x.sum>>24))
		if got := of(crc.Seal(x.b)); !got.is(good(want...)) {
			t.Errorf("Seal(%v): got %v, not %v", x.b, got, want)
		}
	}
	nine := []byte("123456789")
	checkAll(t, []example{
		{"nine", of(crc.Seal(nine)), good(sealed(nine, 0x26, 0x39, 0xf4, 0xcb)...)},
		{"nothing", of(crc.Seal(nil)), good(0, 0, 0, 0)},
		{"what was sealed", of(crc.Seal(sealed(nine, 0x26, 0x39, 0xf4, 0xcb))), good(sealed(nine, 0x26, 0x39, 0xf4, 0xcb, 0x1c, 0xdf, 0x44, 0x21)...)},
	})
}

// P4.2: Seal's ErrLong.
func TestSealLong(t *testing.T) {
	for _, n := range []int{65531, 65532} {
		b := many(n, 7)
		got, e := crc.Seal(b)
		if e != api.OK || len(got) != n+4 || !bytes.Equal(got[:n], b) {
			t.Errorf("Seal of %d: got %d bytes, %d", n, len(got), e)
		}
	}
	for _, n := range []int{65533, 65534, 65535, 65536, 65537, 200000} {
		if got := of(crc.Seal(many(n, 7))); !got.is(bad(api.ErrLong)) {
			t.Errorf("Seal of %d: got %v", n, brief(got))
		}
	}
}

// P4.2: Open.
func TestOpen(t *testing.T) {
	for _, x := range sums() {
		b := append(slices.Clone(x.b), byte(x.sum), byte(x.sum>>8), byte(x.sum>>16), byte(x.sum>>24))
		if got := of(crc.Open(b)); !got.is(good(x.b...)) {
			t.Errorf("Open(%v): got %v, not %v", b, got, x.b)
		}
	}
}

// P4.2: Open's ErrShort and ErrSum.
func TestOpenErrors(t *testing.T) {
	nine := []byte("123456789")
	checkAll(t, []example{
		{"nothing", of(crc.Open(nil)), bad(api.ErrShort)},
		{"an empty text", of(crc.Open(text())), bad(api.ErrShort)},
		{"one byte", of(crc.Open(text(0))), bad(api.ErrShort)},
		{"two bytes", of(crc.Open(text(0, 0))), bad(api.ErrShort)},
		{"three bytes", of(crc.Open(text(0, 0, 0))), bad(api.ErrShort)},
		{"three bytes of 255", of(crc.Open(many(3, 255))), bad(api.ErrShort)},
		{"a sum of nothing", of(crc.Open(text(0, 0, 0, 0))), good()},
		{"no sum of nothing", of(crc.Open(text(0, 0, 0, 1))), bad(api.ErrSum)},
		{"no sum of nothing, in its first byte", of(crc.Open(text(128, 0, 0, 0))), bad(api.ErrSum)},
		{"all bits as a sum of nothing", of(crc.Open(many(4, 255))), bad(api.ErrSum)},
		{"the highest first", of(crc.Open(sealed(nine, 0xcb, 0xf4, 0x39, 0x26))), bad(api.ErrSum)},
		{"bits not turned at the end", of(crc.Open(sealed(nine, 0xd9, 0xc6, 0x0b, 0x34))), bad(api.ErrSum)},
		{"the sum ahead", of(crc.Open(slices.Concat(text(0x26, 0x39, 0xf4, 0xcb), nine))), bad(api.ErrSum)},
		{"no sum", of(crc.Open(nine)), bad(api.ErrSum)},
		{"a byte less", of(crc.Open(sealed(nine[1:], 0x26, 0x39, 0xf4, 0xcb))), bad(api.ErrSum)},
		{"a byte more behind", of(crc.Open(sealed(nine, 0x26, 0x39, 0xf4, 0xcb, 0))), bad(api.ErrSum)},
		{"a byte more ahead", of(crc.Open(slices.Concat(text(0), nine, text(0x26, 0x39, 0xf4, 0xcb)))), bad(api.ErrSum)},
		{"the last byte is another", of(crc.Open(sealed(nine, 0x26, 0x39, 0xf4, 0xca))), bad(api.ErrSum)},
		{"the first byte is another", of(crc.Open(sealed(append(text('0'), nine[1:]...), 0x26, 0x39, 0xf4, 0xcb))), bad(api.ErrSum)},
	})
}

// P4.2: Open's ErrLong, ahead of ErrSum.
func TestOpenLong(t *testing.T) {
	// Seal makes none so long, so that sums are put behind by hand.
	b := many(70000, 9)
	for _, n := range []int{65535, 65536, 65537, 70000} {
		sum := crc.Sum(b[:n-4]...)
		whole := sealed(b[:n-4], byte(sum), byte(sum>>8), byte(sum>>16), byte(sum>>24))
		spoilt := slices.Clone(whole)
		spoilt[n/2] ^= 1
		want, wrong := good(b[:n-4]...), bad(api.ErrSum)
		if n > 65536 {
			want, wrong = bad(api.ErrLong), bad(api.ErrLong)
		}
		if got := of(crc.Open(whole)); !got.is(want) {
			t.Errorf("Open of %d: got %v, not %v", n, brief(got), brief(want))
		}
		if got := of(crc.Open(spoilt)); !got.is(wrong) {
			t.Errorf("Open of %d, spoilt: got %v, not %v", n, brief(got), wrong)
		}
	}
}

// P4.2: Turn.
func TestTurn(t *testing.T) {
	checkAll(t, []example{
		{"the first bit", of(crc.Turn(text(0), 0)), good(1)},
		{"the second bit", of(crc.Turn(text(0), 1)), good(2)},
		{"the last bit of a byte", of(crc.Turn(text(0), 7)), good(128)},
		{"a bit that is 1", of(crc.Turn(text(255), 3)), good(247)},
		{"the highest one that is 1", of(crc.Turn(text(255), 7)), good(127)},
		{"the last bit of the first byte", of(crc.Turn(text(0, 0, 0), 7)), good(128, 0, 0)},
		{"the first bit of the second byte", of(crc.Turn(text(0, 0, 0), 8)), good(0, 1, 0)},
		{"amid the second byte", of(crc.Turn(text(5, 6, 7), 9)), good(5, 4, 7)},
		{"the last bit of three bytes", of(crc.Turn(text(5, 6, 7), 23)), good(5, 6, 135)},
		{"the last bit of a long one", of(crc.Turn(many(65536, 0), 524287)), good(append(many(65535, 0), 128)...)},
		{"the last bit of a longer one than a text may be", of(crc.Turn(many(70000, 1), 559999)), good(append(many(69999, 1), 129)...)},
	})
}

// P4.2: Turn's ErrArg.
func TestTurnErrors(t *testing.T) {
	for _, b := range [][]byte{nil, text(), text(1), text(1, 2, 3), many(65536, 255), many(70000, 255)} {
		for _, bit := range []int{-1, -2, -7, -8, -9, math.MinInt, 8 * len(b), 8*len(b) + 1, 8*len(b) + 7, 8*len(b) + 8, math.MaxInt} {
			if got := of(crc.Turn(b, bit)); !got.is(bad(api.ErrArg)) {
				t.Errorf("Turn of %d, %d: got %v", len(b), bit, brief(got))
			}
		}
	}
}

// P4.2: each bit turned is the one that stands there, and no other one.
func TestTurnIsOfOneBit(t *testing.T) {
	for _, b := range [][]byte{text(0), text(255), text(0, 255, 170, 85), []byte(strings.Repeat("thrum", 5))} {
		for bit := range 8 * len(b) {
			got, e := crc.Turn(b, bit)
			if e != api.OK || len(got) != len(b) {
				t.Fatalf("Turn(%v, %d): got %v, %d", b, bit, got, e)
			}
			for place := range 8 * len(b) {
				was, is := b[place/8]>>(place%8)&1, got[place/8]>>(place%8)&1
				if (was != is) != (place == bit) {
					t.Errorf("Turn(%v, %d): bit %d was %d, is %d", b, bit, place, was, is)
				}
			}
			if back := of(crc.Turn(got, bit)); !back.is(good(b...)) {
				t.Errorf("turned twice at %d: got %v, not %v", bit, back, b)
			}
		}
	}
}
