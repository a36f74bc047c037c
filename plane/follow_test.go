package plane_test

import (
	"slices"
	"strconv"
	"strings"
	"testing"

	"thrum/api"
	"thrum/plane"
)

// mixed are n numbers of a width that look like chance, others for another seed.
func mixed(width, n int, seed uint64) []uint64 {
	l := make([]uint64, n)
	for i := range l {
		seed = seed*6364136223846793005 + 1442695040888963407
		l[i] = seed >> 16 & (1<<width - 1)
	}
	return l
}

// numbers are some of a width: none, each of its bits alone, none and all of them, and mixed ones of many lengths.
func numbers(width int) [][]uint64 {
	all := uint64(1)<<width - 1
	var bit []uint64
	for i := range width {
		bit = append(bit, 1<<i)
	}
	l := [][]uint64{nil, {0}, {all}, {0, all, 0}, bit}
	for n := range 40 {
		l = append(l, mixed(width, n, uint64(n+width)))
	}
	for _, n := range []int{255, 1000, 4095, 4096} {
		l = append(l, mixed(width, n, uint64(n+width)))
	}
	return l
}

// row is a number's bits as a word of a width, the highest first.
func row(width int, n uint64) string {
	digits := strconv.FormatUint(n, 2)
	if width == 0 {
		return ""
	}
	return strings.Repeat("0", width-len(digits)) + digits
}

// bytesOf are bits of a word, eight by eight, with 0 in what is left.
func bytesOf(t *testing.T, word string) []byte {
	t.Helper()
	var b []byte
	for len(word) > 0 {
		word += strings.Repeat("0", max(0, 8-len(word)))
		x, err := strconv.ParseUint(word[:8], 2, 8)
		if err != nil {
			t.Fatal(err)
		}
		b = append(b, byte(x))
		word = word[8:]
	}
	return b
}

// sideWord and planeWord are all bits of numbers, as the chapter's words tell their order.
func sideWord(width int, l []uint64) string {
	var word strings.Builder
	for _, n := range l {
		word.WriteString(row(width, n))
	}
	return word.String()
}

func planeWord(width int, l []uint64) string {
	var word strings.Builder
	for i := range width {
		for _, n := range l {
			word.WriteByte(row(width, n)[i])
		}
	}
	return word.String()
}

// P5.1: numbers of a width are those below 2^width, and there is none less.
func TestWidthIsTheLeast(t *testing.T) {
	for width := range 64 {
		for _, n := range []uint64{1 << width, 1<<width + 1, 1<<(width+1) - 1} {
			// Of one bit, one more than 1 has two.
			if n>>width != 1 {
				continue
			}
			if got := plane.Width(n); got != width+1 {
				t.Errorf("Width(%d): got %d, not %d", n, got, width+1)
			}
		}
	}
	for n := range uint64(5000) {
		width := 0
		for n >= 1<<width {
			width++
		}
		if got := plane.Width(n); got != width {
			t.Errorf("Width(%d): got %d, not %d", n, got, width)
		}
	}
}

// P5.1: bytes are as few as the numbers' bits have room in.
func TestBytesAreAsFewAsCanBe(t *testing.T) {
	for width := range 33 {
		for n := range 4097 {
			got, e := plane.Bytes(width, n)
			if e != api.OK || 8*got < width*n || 8*got >= width*n+8 {
				t.Errorf("Bytes(%d, %d): got %d, %d", width, n, got, e)
			}
		}
	}
}

// P5.2: of each width, bits go where the words tell.
func TestBitsAreWhereTheWordsTell(t *testing.T) {
	for width := range 33 {
		for _, l := range numbers(width) {
			side, woven := good(bytesOf(t, sideWord(width, l))...), good(bytesOf(t, planeWord(width, l))...)
			if got := of(plane.Pack(width, l...)); !got.is(side) {
				t.Errorf("Pack(%d, %v): got %v, not %v", width, good(l...).brief(), got.brief(), side.brief())
			}
			if got := of(plane.Weave(width, l...)); !got.is(woven) {
				t.Errorf("Weave(%d, %v): got %v, not %v", width, good(l...).brief(), got.brief(), woven.brief())
			}
		}
	}
}

// P5.1, P5.2: as many bytes are told as are written.
func TestBytesAreAsManyAsAreWritten(t *testing.T) {
	for width := range 33 {
		for _, l := range numbers(width) {
			size, _ := plane.Bytes(width, len(l))
			side, _ := plane.Pack(width, l...)
			woven, _ := plane.Weave(width, l...)
			if len(side) != size || len(woven) != size {
				t.Errorf("%d of width %d: got %d and %d bytes, not %d", len(l), width, len(side), len(woven), size)
			}
		}
	}
}

// P5.2: whatever is no number of a width is told, wherever it stands.
func TestWhatIsNoNumberIsTold(t *testing.T) {
	for width := range 33 {
		for _, wrong := range list(1<<width, 1<<width+1, 1<<(width+1)-1, 1<<40, 1<<63, most) {
			for at := range 9 {
				l := mixed(width, 9, uint64(at))
				l[at] = wrong
				if got := of(plane.Pack(width, l...)); !got.is(bad[byte](api.ErrArg)) {
					t.Errorf("Pack(%d, %v): got %v", width, l, got)
				}
				if got := of(plane.Weave(width, l...)); !got.is(bad[byte](api.ErrArg)) {
					t.Errorf("Weave(%d, %v): got %v", width, l, got)
				}
			}
		}
	}
}

// P5.4: what was packed is unpacked, and woven unwoven.
func TestWhatWasPackedIsUnpacked(t *testing.T) {
	for width := range 33 {
		for _, l := range numbers(width) {
			side, e := plane.Pack(width, l...)
			if got := of(plane.Unpack(width, len(l), side)); e != api.OK || !got.is(good(l...)) {
				t.Errorf("Unpack(%d) of %v: got %d, %v", width, good(l...).brief(), e, got.brief())
			}
			woven, e := plane.Weave(width, l...)
			if got := of(plane.Unweave(width, len(l), woven)); e != api.OK || !got.is(good(l...)) {
				t.Errorf("Unweave(%d) of %v: got %d, %v", width, good(l...).brief(), e, got.brief())
			}
		}
	}
}

// P5.2, P5.4: of all texts of two bytes, those with nothing left are read, and are written again as they were.
func TestWhatIsReadIsWrittenAgain(t *testing.T) {
	for _, x := range []struct{ width, many int }{{1, 9}, {1, 15}, {1, 16}, {2, 5}, {2, 8}, {3, 3}, {3, 5}, {4, 4}, {5, 2}, {5, 3}, {7, 2}, {9, 1}, {13, 1}, {16, 1}} {
		left := 16 - x.width*x.many
		for n := range 1 << 16 {
			b := text(byte(n>>8), byte(n))
			l, m := of(plane.Unpack(x.width, x.many, b)), of(plane.Unweave(x.width, x.many, b))
			if n&(1<<left-1) != 0 {
				if !l.is(bad[uint64](api.ErrForm)) || !m.is(bad[uint64](api.ErrForm)) {
					t.Errorf("%d of width %d of %08b: got %v, %v", x.many, x.width, b, l, m)
				}
				continue
			}
			if got := of(plane.Pack(x.width, l.l...)); len(l.l) != x.many || !got.is(good(b...)) {
				t.Errorf("%d of width %d of %08b: got %v, packed %08b", x.many, x.width, b, l, got.l)
			}
			if got := of(plane.Weave(x.width, m.l...)); len(m.l) != x.many || !got.is(good(b...)) {
				t.Errorf("%d of width %d of %08b: got %v, woven %08b", x.many, x.width, b, m, got.l)
			}
		}
	}
}

// P5.4: of width 1 both are the same.
func TestOfWidthOneBothAreTheSame(t *testing.T) {
	for _, l := range numbers(1) {
		side, woven := of(plane.Pack(1, l...)), of(plane.Weave(1, l...))
		if side.e != api.OK || !side.is(woven) {
			t.Errorf("%v: got %v, and %v", good(l...).brief(), side.brief(), woven.brief())
		}
		a, b := of(plane.Unpack(1, len(l), side.l)), of(plane.Unweave(1, len(l), side.l))
		if a.e != api.OK || !a.is(b) {
			t.Errorf("%v: got %v, and %v", side.brief(), a.brief(), b.brief())
		}
	}
}

// P5.3: signs are numbers of width 1, and read again.
func TestSignsAreNumbersOfWidthOne(t *testing.T) {
	for _, l := range numbers(1) {
		s := make([]bool, len(l))
		for i, n := range l {
			s[i] = n != 0
		}
		got, want := of(plane.Signs(s...)), of(plane.Pack(1, l...))
		if got.e != api.OK || !got.is(want) {
			t.Errorf("Signs(%v): got %v, not %v", good(s...).brief(), got.brief(), want.brief())
		}
		if back := of(plane.Read(len(s), got.l)); !back.is(good(s...)) {
			t.Errorf("Read(%v): got %v, not %v", got.brief(), back.brief(), good(s...).brief())
		}
	}
}

// P5.3: Read tells what Unpack of width 1 tells.
func TestReadIsUnpackOfWidthOne(t *testing.T) {
	told := map[api.Errno]int{}
	for _, b := range [][]byte{nil, {0}, {1}, {128}, {192}, {255}, {254}, {0, 0}, {255, 128}, {255, 255}, {170, 85, 170}, many(512, byte(255)), many(513, byte(0))} {
		for _, n := range []int{-1, 0, 1, 2, 7, 8, 9, 10, 15, 16, 17, 24, 4095, 4096, 4097} {
			got, want := of(plane.Read(n, b)), of(plane.Unpack(1, n, b))
			same := slices.EqualFunc(got.l, want.l, func(s bool, n uint64) bool { return s == (n == 1) })
			if got.e != want.e || !same {
				t.Errorf("Read(%d, %v): got %v, not %v", n, good(b...).brief(), got.brief(), want.brief())
			}
			told[got.e]++
		}
	}
	if len(told) != 5 {
		t.Errorf("got %v", told)
	}
}
