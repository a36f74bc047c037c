package leb_test

import (
	"bytes"
	"math"
	"slices"
	"testing"

	"thrum/api"
	"thrum/leb"
)

const (
	top  = math.MaxInt64
	low  = math.MinInt64
	most = math.MaxUint64
)

// answer is what a call tells: numbers (one, where it tells one), the place behind their codes, and an error.
type answer[N int64 | uint64] struct {
	n  []N
	at int
	e  api.Errno
}

func (a answer[N]) is(b answer[N]) bool {
	return a.e == b.e && a.at == b.at && slices.Equal(a.n, b.n)
}

func one[N int64 | uint64](n N, at int, e api.Errno) answer[N] {
	return answer[N]{n: []N{n}, at: at, e: e}
}

func of(n []uint64, at int, e api.Errno) answer[uint64] {
	return answer[uint64]{n: n, at: at, e: e}
}

// good is what is told of numbers, and the place behind them.
func good[N int64 | uint64](at int, n ...N) answer[N] {
	return answer[N]{n: n, at: at}
}

// badOne is an error where a number is told, bad where many are.
func badOne[N int64 | uint64](e api.Errno) answer[N] { return answer[N]{n: []N{0}, e: e} }

func bad(e api.Errno) answer[uint64] { return answer[uint64]{e: e} }

// example is a call as it is written, what it answers, and what it is to answer.
type example[N int64 | uint64] struct {
	call string
	got  answer[N]
	want answer[N]
}

func checkAll[N int64 | uint64](t *testing.T, l []example[N]) {
	t.Helper()
	for _, x := range l {
		if !x.got.is(x.want) {
			t.Errorf("%s: got %v, not %v", x.call, x.got, x.want)
		}
	}
}

// text is a text as it is written.
func text(b ...byte) []byte { return b }

// run is n times the same byte, and others behind.
func run(n int, x byte, behind ...byte) []byte {
	return append(slices.Repeat([]byte{x}, n), behind...)
}

// codes are numbers at each edge at which a code comes to have a byte more, and others, with their codes.
func codes() []struct {
	n uint64
	b []byte
} {
	return []struct {
		n uint64
		b []byte
	}{
		{0, text(0)},
		{1, text(1)},
		{64, text(64)},
		{127, text(127)},
		{128, text(128, 1)},
		{129, text(129, 1)},
		{256, text(128, 2)},
		{300, text(172, 2)},
		{1<<14 - 1, text(255, 127)},
		{1 << 14, text(128, 128, 1)},
		{1<<21 - 1, run(2, 255, 127)},
		{1 << 21, run(3, 128, 1)},
		{1<<28 - 1, run(3, 255, 127)},
		{1 << 28, run(4, 128, 1)},
		{1<<32 - 1, run(4, 255, 15)},
		{1 << 32, run(4, 128, 16)},
		{1<<35 - 1, run(4, 255, 127)},
		{1 << 35, run(5, 128, 1)},
		{1<<42 - 1, run(5, 255, 127)},
		{1 << 42, run(6, 128, 1)},
		{1<<49 - 1, run(6, 255, 127)},
		{1 << 49, run(7, 128, 1)},
		{1<<56 - 1, run(7, 255, 127)},
		{1 << 56, run(8, 128, 1)},
		{1<<63 - 1, run(8, 255, 127)},
		{1 << 63, run(9, 128, 1)},
		{most - 1, append(text(254), run(8, 255, 1)...)},
		{most, run(9, 255, 1)},
	}
}

// P3.1: Size.
func TestSize(t *testing.T) {
	for _, x := range codes() {
		if got := leb.Size(x.n); got != len(x.b) {
			t.Errorf("Size(%d): got %d, not %d", x.n, got, len(x.b))
		}
	}
}

// P3.1: Put.
func TestPutOne(t *testing.T) {
	for _, x := range codes() {
		if got := leb.Put(nil, x.n); !bytes.Equal(got, x.b) {
			t.Errorf("Put(%d): got %v, not %v", x.n, got, x.b)
		}
		if got, want := leb.Put(text(9, 128), x.n), append(text(9, 128), x.b...); !bytes.Equal(got, want) {
			t.Errorf("Put(%d) behind others: got %v, not %v", x.n, got, want)
		}
	}
}

// P3.1: Put.
func TestPutMany(t *testing.T) {
	for _, x := range []struct {
		call string
		got  []byte
		want []byte
	}{
		{"nothing", leb.Put(nil), nil},
		{"none behind an empty text", leb.Put(text()), nil},
		{"none behind others", leb.Put(text(7, 255, 0)), text(7, 255, 0)},
		{"of three", leb.Put(nil, 300, 0, 128), text(172, 2, 0, 128, 1)},
		{"of three behind others", leb.Put(text(0, 200), 1, 300, most), append(text(0, 200, 1, 172, 2), run(9, 255, 1)...)},
		{"of the same thrice", leb.Put(nil, 5, 5, 5), text(5, 5, 5)},
		{"of zeros", leb.Put(text(1), 0, 0), text(1, 0, 0)},
	} {
		if !bytes.Equal(x.got, x.want) {
			t.Errorf("%s: got %v, not %v", x.call, x.got, x.want)
		}
	}
}

// P3.1: Get.
func TestGet(t *testing.T) {
	for _, x := range codes() {
		if got, want := one(leb.Get(x.b, 0)), good(len(x.b), x.n); !got.is(want) {
			t.Errorf("Get(%v): got %v, not %v", x.b, got, want)
		}
		between := append(append(text(128, 255), x.b...), 128, 7)
		if got, want := one(leb.Get(between, 2)), good(2+len(x.b), x.n); !got.is(want) {
			t.Errorf("Get(%v, 2): got %v, not %v", between, got, want)
		}
	}
	checkAll(t, []example[uint64]{
		{"the first of three", one(leb.Get(text(172, 2, 5, 128, 1), 0)), good[uint64](2, 300)},
		{"from amid a code on", one(leb.Get(text(172, 2, 5, 128, 1), 1)), good[uint64](2, 2)},
		{"the second of three", one(leb.Get(text(172, 2, 5, 128, 1), 2)), good[uint64](3, 5)},
		{"the third of three", one(leb.Get(text(172, 2, 5, 128, 1), 3)), good[uint64](5, 128)},
		{"from amid a code of ten bytes on", one(leb.Get(run(9, 255, 1), 1)), good[uint64](10, 1<<57-1)},
		{"what stands ahead is no code", one(leb.Get(run(12, 128, 0, 6), 13)), good[uint64](14, 6)},
		{"what stands behind is no code", one(leb.Get(append(text(6), run(12, 128)...), 0)), good[uint64](1, 6)},
	})
}

// P3.1: Get's ErrArg and ErrShort.
func TestGetPlace(t *testing.T) {
	for _, x := range []struct {
		call string
		b    []byte
		at   int
		want api.Errno
	}{
		{"below 0", text(1), -1, api.ErrArg},
		{"below 0, in nothing", nil, -1, api.ErrArg},
		{"far below 0", text(1), math.MinInt, api.ErrArg},
		{"below 0, in what is no code", text(128, 0), -1, api.ErrArg},
		{"in nothing", nil, 0, api.ErrShort},
		{"in an empty text", text(), 0, api.ErrShort},
		{"far behind nothing", nil, math.MaxInt, api.ErrShort},
		{"at the end", text(1), 1, api.ErrShort},
		{"behind the end", text(1, 2), 3, api.ErrShort},
		{"far behind the end", text(1), math.MaxInt, api.ErrShort},
		{"a byte that says that more come", text(128), 0, api.ErrShort},
		{"another one", text(255), 0, api.ErrShort},
		{"one behind a code", text(5, 128), 1, api.ErrShort},
		{"two of them", text(128, 128), 0, api.ErrShort},
		{"nine of them", run(9, 255), 0, api.ErrShort},
		{"nine of no bits", run(9, 128), 0, api.ErrShort},
		{"nine at the end", run(20, 128), 11, api.ErrShort},
	} {
		if got := one(leb.Get(x.b, x.at)); !got.is(badOne[uint64](x.want)) {
			t.Errorf("%s: got %v, not %d", x.call, got, x.want)
		}
		if got := one(leb.Take(x.b, x.at)); !got.is(badOne[int64](x.want)) {
			t.Errorf("%s, signed: got %v, not %d", x.call, got, x.want)
		}
		if got := of(leb.Many(x.b, x.at, 1)); !got.is(bad(x.want)) {
			t.Errorf("%s, of many: got %v, not %d", x.call, got, x.want)
		}
	}
}

// P3.1: Get's ErrForm.
func TestGetForm(t *testing.T) {
	for _, b := range [][]byte{
		text(128, 0),
		text(255, 0),
		text(129, 0, 5),
		text(128, 128, 0),
		text(255, 255, 0),
		run(4, 128, 0),
		run(8, 255, 0),
		run(9, 128, 0),
		run(9, 255, 0),
		// More than 64 bits.
		run(9, 128, 2),
		run(9, 255, 2),
		run(9, 128, 3),
		run(9, 255, 3),
		run(9, 255, 64),
		run(9, 255, 65),
		run(9, 255, 127),
		// Ten bytes that say that more come, at the end, too.
		run(10, 128),
		run(10, 255),
		run(9, 255, 129),
		run(9, 128, 130),
		run(10, 128, 0),
		run(10, 128, 1),
		run(9, 128, 129, 0),
		run(9, 255, 129, 1),
		run(11, 128),
		run(30, 255),
	} {
		for _, ahead := range [][]byte{nil, text(3, 128)} {
			in, at := slices.Concat(ahead, b), len(ahead)
			if got := one(leb.Get(in, at)); !got.is(badOne[uint64](api.ErrForm)) {
				t.Errorf("Get(%v, %d): got %v", in, at, got)
			}
			if got := one(leb.Take(in, at)); !got.is(badOne[int64](api.ErrForm)) {
				t.Errorf("Take(%v, %d): got %v", in, at, got)
			}
			if got := of(leb.Many(in, at, 2)); !got.is(bad(api.ErrForm)) {
				t.Errorf("Many(%v, %d, 2): got %v", in, at, got)
			}
		}
	}
}

// signed are signed numbers, and their numbers.
func signed() []struct {
	n    int64
	with uint64
} {
	return []struct {
		n    int64
		with uint64
	}{
		{0, 0},
		{-1, 1},
		{1, 2},
		{-2, 3},
		{2, 4},
		{-3, 5},
		{63, 126},
		{-64, 127},
		{64, 128},
		{-65, 129},
		{1 << 31, 1 << 32},
		{-1 << 31, 1<<32 - 1},
		{1<<62 - 1, 1<<63 - 2},
		{-1 << 62, 1<<63 - 1},
		{1 << 62, 1 << 63},
		{-1<<62 - 1, 1<<63 + 1},
		{top - 1, most - 3},
		{low + 1, most - 2},
		{top, most - 1},
		{low, most},
	}
}

// P3.2: Zig, Zag.
func TestZigZag(t *testing.T) {
	for _, x := range signed() {
		if got := leb.Zig(x.n); got != x.with {
			t.Errorf("Zig(%d): got %d, not %d", x.n, got, x.with)
		}
		if got := leb.Zag(x.with); got != x.n {
			t.Errorf("Zag(%d): got %d, not %d", x.with, got, x.n)
		}
	}
}

// P3.2: Signed, Take.
func TestSignedIsPutOfNumbers(t *testing.T) {
	var all []int64
	var with []uint64
	for _, x := range signed() {
		all, with = append(all, x.n), append(with, x.with)
		want := leb.Put(text(128, 9), x.with)
		if got := leb.Signed(text(128, 9), x.n); !bytes.Equal(got, want) {
			t.Errorf("Signed(%d): got %v, not %v", x.n, got, want)
		}
		if got := one(leb.Take(append(want, 200), 2)); !got.is(good(len(want), x.n)) {
			t.Errorf("Take of %d: got %v", x.n, got)
		}
	}
	if got, want := leb.Signed(text(1), all...), leb.Put(text(1), with...); !bytes.Equal(got, want) {
		t.Errorf("Signed of all: got %v, not %v", got, want)
	}
}

// P3.2: Signed.
func TestSigned(t *testing.T) {
	for _, x := range []struct {
		call string
		got  []byte
		want []byte
	}{
		{"nothing", leb.Signed(nil), nil},
		{"none behind others", leb.Signed(text(7, 255)), text(7, 255)},
		{"of -3", leb.Signed(nil, -3), text(5)},
		{"of four", leb.Signed(nil, -1, 64, 0, -65), text(1, 128, 1, 0, 129, 1)},
		{"behind others", leb.Signed(text(0, 130), 150), text(0, 130, 172, 2)},
		{"at the edges", leb.Signed(nil, low, top), append(run(9, 255, 1, 254), run(8, 255, 1)...)},
	} {
		if !bytes.Equal(x.got, x.want) {
			t.Errorf("%s: got %v, not %v", x.call, x.got, x.want)
		}
	}
}

// P3.2: Take.
func TestTake(t *testing.T) {
	b := text(1, 128, 1, 0, 129, 1)
	checkAll(t, []example[int64]{
		{"the first of four", one(leb.Take(b, 0)), good[int64](1, -1)},
		{"the second of four", one(leb.Take(b, 1)), good[int64](3, 64)},
		{"the third of four", one(leb.Take(b, 3)), good[int64](4, 0)},
		{"the fourth of four", one(leb.Take(b, 4)), good[int64](6, -65)},
		{"from amid a code on", one(leb.Take(b, 5)), good[int64](6, -1)},
		{"behind all", one(leb.Take(b, 6)), badOne[int64](api.ErrShort)},
	})
}

// P3.2: Many.
func TestMany(t *testing.T) {
	b := text(172, 2, 0, 128, 1, 7)
	checkAll(t, []example[uint64]{
		{"all", of(leb.Many(b, 0, 4)), good[uint64](6, 300, 0, 128, 7)},
		{"the first", of(leb.Many(b, 0, 1)), good[uint64](2, 300)},
		{"the first three", of(leb.Many(b, 0, 3)), good[uint64](5, 300, 0, 128)},
		{"two in the middle", of(leb.Many(b, 2, 2)), good[uint64](5, 0, 128)},
		{"the last", of(leb.Many(b, 5, 1)), good[uint64](6, 7)},
		{"from amid a code on", of(leb.Many(b, 1, 2)), good[uint64](3, 2, 0)},
		{"of ten bytes each", of(leb.Many(append(run(9, 255, 1), run(9, 128, 1)...), 0, 2)), good[uint64](20, most, 1<<63)},
		{"none", of(leb.Many(b, 0, 0)), good[uint64](0)},
		{"none amid", of(leb.Many(b, 3, 0)), good[uint64](3)},
		{"none at the end", of(leb.Many(b, 6, 0)), good[uint64](6)},
		{"none behind the end", of(leb.Many(b, 9, 0)), good[uint64](9)},
		{"none of nothing", of(leb.Many(nil, 0, 0)), good[uint64](0)},
		{"none where no code stands", of(leb.Many(run(12, 128), 0, 0)), good[uint64](0)},
		{"no code asked for, no place asked of", of(leb.Many(b, -1, 0)), good[uint64](-1)},
	})
}

// P3.2: Many's errors.
func TestManyErrors(t *testing.T) {
	b := text(172, 2, 0, 128, 1, 7)
	checkAll(t, []example[uint64]{
		{"fewer than none", of(leb.Many(b, 0, -1)), bad(api.ErrArg)},
		{"far fewer than none", of(leb.Many(b, 0, math.MinInt)), bad(api.ErrArg)},
		{"fewer than none of nothing", of(leb.Many(nil, 0, -1)), bad(api.ErrArg)},
		{"fewer than none behind the end", of(leb.Many(b, 9, -1)), bad(api.ErrArg)},
		{"fewer than none where no code stands", of(leb.Many(text(128, 0), 0, -1)), bad(api.ErrArg)},
		{"below 0", of(leb.Many(b, -1, 1)), bad(api.ErrArg)},
		{"far below 0", of(leb.Many(b, math.MinInt, 2)), bad(api.ErrArg)},
		{"one more than there are", of(leb.Many(b, 0, 5)), bad(api.ErrShort)},
		{"one of nothing", of(leb.Many(nil, 0, 1)), bad(api.ErrShort)},
		{"one at the end", of(leb.Many(b, 6, 1)), bad(api.ErrShort)},
		{"one far behind the end", of(leb.Many(b, math.MaxInt, 1)), bad(api.ErrShort)},
		{"the last one ends too soon", of(leb.Many(text(1, 2, 128), 0, 3)), bad(api.ErrShort)},
		{"the last one is none", of(leb.Many(text(1, 2, 128, 0), 0, 3)), bad(api.ErrForm)},
		{"what is none lies behind those asked for", of(leb.Many(text(1, 2, 128, 0), 0, 2)), good[uint64](2, 1, 2)},
		{"what ends too soon lies behind those asked for", of(leb.Many(text(1, 2, 128), 0, 2)), good[uint64](2, 1, 2)},
		{"one is none, and then too few", of(leb.Many(text(1, 128, 0, 5), 0, 9)), bad(api.ErrForm)},
		{"one of more than 64 bits, and then too few", of(leb.Many(append(text(4), run(9, 255, 2)...), 0, 9)), bad(api.ErrForm)},
	})
}

// P3.2: Many's errors where far more are asked for than there are; nobody waits for them, and no room is made for them.
func TestManyFarMore(t *testing.T) {
	b := text(172, 2, 0, 128, 1, 7)
	// If few too many were told, as many again would be without end.
	if got := of(leb.Many(b, 0, 9)); !got.is(bad(api.ErrShort)) {
		t.Fatalf("few too many: got %v", got)
	}
	checkAll(t, []example[uint64]{
		{"of some", of(leb.Many(b, 0, math.MaxInt)), bad(api.ErrShort)},
		{"of none", of(leb.Many(nil, 0, math.MaxInt)), bad(api.ErrShort)},
		{"below 0", of(leb.Many(b, -1, math.MaxInt)), bad(api.ErrArg)},
		{"where no code stands", of(leb.Many(text(1, 128, 0), 0, math.MaxInt)), bad(api.ErrForm)},
	})
}
