package crc_test

import (
	"hash/crc32"
	"slices"
	"testing"

	"thrum/api"
	"thrum/crc"
)

// mixed are n bytes that look like chance, others for another seed.
func mixed(n int, seed uint64) []byte {
	b := make([]byte, n)
	for i := range b {
		seed = seed*6364136223846793005 + 1442695040888963407
		b[i] = byte(seed >> 56)
	}
	return b
}

// texts are all of up to two bytes, and longer ones of many lengths.
func texts() [][]byte {
	l := [][]byte{{}}
	for a := range 256 {
		l = append(l, text(byte(a)))
		for b := range 256 {
			l = append(l, text(byte(a), byte(b)))
		}
	}
	for n := range 300 {
		l = append(l, mixed(n, uint64(n)), many(n, 0), many(n, 255))
	}
	for _, n := range []int{4095, 4096, 65531, 65532} {
		l = append(l, mixed(n, uint64(n)), many(n, 0), many(n, 255))
	}
	return l
}

// plain is a text's sum, told bit by bit as the chapter's words tell it.
func plain(b []byte) uint32 {
	register := ^uint32(0)
	for _, x := range b {
		register ^= uint32(x)
		for range 8 {
			if register&1 == 1 {
				register = register>>1 ^ 0xedb88320
			} else {
				register >>= 1
			}
		}
	}
	return ^register
}

// P4.1: sums are as the words tell them, and as another program's.
func TestSumIsAsElsewhere(t *testing.T) {
	for _, b := range append(texts(), mixed(65536, 1), mixed(65537, 2), mixed(300000, 3)) {
		got := crc.Sum(b...)
		if want := plain(b); got != want {
			t.Errorf("Sum of %d bytes: got %x, not %x", len(b), got, want)
		}
		if want := crc32.ChecksumIEEE(b); got != want {
			t.Errorf("Sum of %d bytes: got %x, elsewhere %x", len(b), got, want)
		}
	}
}

// P4.1: of whatever sum, More is as another program's.
func TestMoreIsAsElsewhere(t *testing.T) {
	for n := range uint64(2000) {
		b := mixed(int(n%40), n)
		for _, sum := range []uint32{0, 1, 1 << 31, 0xffffffff, 0xedb88320, uint32(n * 0x9e3779b97f4a7c15 >> 32)} {
			if got, want := crc.More(sum, b...), crc32.Update(sum, crc32.IEEETable, b); got != want {
				t.Errorf("More(%x, %v): got %x, not %x", sum, b, got, want)
			}
		}
	}
}

// P4.1: a text's sum is told of its parts, wherever they are cut.
func TestMoreIsOfTheWhole(t *testing.T) {
	for _, n := range []int{0, 1, 2, 3, 4, 5, 8, 31, 64, 101} {
		b := mixed(n, uint64(n)+7)
		want := plain(b)
		for first := range n + 1 {
			for second := first; second <= n; second++ {
				got := crc.More(crc.More(crc.Sum(b[:first]...), b[first:second]...), b[second:]...)
				if got != want {
					t.Errorf("%v, cut at %d and %d: got %x, not %x", b, first, second, got, want)
				}
			}
		}
		sum := crc.Sum()
		for _, x := range b {
			sum = crc.More(sum, x)
		}
		if sum != want {
			t.Errorf("%v, byte by byte: got %x, not %x", b, sum, want)
		}
	}
}

// P4.3: what was sealed is opened.
func TestWhatWasSealedIsOpened(t *testing.T) {
	for _, b := range texts() {
		whole, e := crc.Seal(b)
		if e != api.OK || len(whole) != len(b)+4 {
			t.Fatalf("Seal of %d: got %d bytes, %d", len(b), len(whole), e)
		}
		if got := of(crc.Open(whole)); !got.is(good(b...)) {
			t.Errorf("Open of %d: got %v, not %v", len(whole), brief(got), brief(good(b...)))
		}
	}
}

// P4.3: what was sealed again and again is opened as often.
func TestSealedAgain(t *testing.T) {
	b := []byte("thrum")
	l := [][]byte{b}
	for range 20 {
		whole, e := crc.Seal(l[len(l)-1])
		if e != api.OK {
			t.Fatalf("got %d", e)
		}
		l = append(l, whole)
	}
	for i, whole := range slices.Backward(l[1:]) {
		if got := of(crc.Open(whole)); !got.is(good(l[i]...)) {
			t.Errorf("Open(%v): got %v", whole, got)
		}
	}
}

// turned is a text of which the bits from a place on are turned where the pattern has a 1, the lowest first.
func turned(t *testing.T, b []byte, at int, pattern uint64) []byte {
	t.Helper()
	for bit := range 64 {
		if pattern>>bit&1 == 0 {
			continue
		}
		next, e := crc.Turn(b, at+bit)
		if e != api.OK {
			t.Fatalf("Turn of %d bytes, %d: got %d", len(b), at+bit, e)
		}
		b = next
	}
	return b
}

// checkSpoilt tells when a sealed text is opened of which bits from some place on are turned.
func checkSpoilt(t *testing.T, whole []byte, span int, pattern uint64) {
	t.Helper()
	for at := range 8*len(whole) - span + 1 {
		if got := of(crc.Open(turned(t, whole, at, pattern))); !got.is(bad(api.ErrSum)) {
			t.Errorf("%d bytes, %b turned from bit %d on: got %v", len(whole), pattern, at, brief(got))
		}
	}
}

// P4.3: with up to 32 bits beside one another turned, all of them, nothing is opened.
func TestRunsTurnedAreNotOpened(t *testing.T) {
	for _, b := range [][]byte{nil, text(0), text(255), text(0, 0, 0), []byte("123456789"), mixed(40, 5)} {
		whole, _ := crc.Seal(b)
		for span := 1; span <= 32; span++ {
			checkSpoilt(t, whole, span, 1<<span-1)
		}
	}
}

// P4.3: nor is it with some of 32 bits beside one another turned.
func TestSomeTurnedAreNotOpened(t *testing.T) {
	whole, _ := crc.Seal([]byte("123456789"))
	for pattern := uint64(1); pattern < 1<<9; pattern += 2 {
		checkSpoilt(t, whole, 9, pattern)
	}
	for _, b := range mixed(200, 11) {
		for span := 10; span <= 32; span++ {
			inner := uint64(b) * 0x9e3779b97f4a7c15 >> (66 - span)
			checkSpoilt(t, whole, span, 1|inner<<1|1<<(span-1))
		}
	}
}

// P4.3: nor are long ones, wherever a bit is turned.
func TestLongOnesTurnedAreNotOpened(t *testing.T) {
	whole, _ := crc.Seal(mixed(65532, 9))
	for at := 0; at <= 8*len(whole)-32; at += 4099 {
		for _, pattern := range []uint64{1, 3, 1<<31 + 1, 1<<32 - 1} {
			if got := of(crc.Open(turned(t, whole, at, pattern))); !got.is(bad(api.ErrSum)) {
				t.Errorf("%b turned from bit %d on: got %v", pattern, at, brief(got))
			}
		}
	}
	last := 8*len(whole) - 1
	if got := of(crc.Open(turned(t, whole, last, 1))); !got.is(bad(api.ErrSum)) {
		t.Errorf("the last bit turned: got %v", brief(got))
	}
}
