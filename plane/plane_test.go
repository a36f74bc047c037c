package plane_test

import (
	"math"
	"slices"
	"testing"

	"thrum/api"
	"thrum/plane"
)

const most = math.MaxUint64

// answer is what a call tells: a list (of one thing, where it tells one), and an error.
type answer[T comparable] struct {
	l []T
	e api.Errno
}

func (a answer[T]) is(b answer[T]) bool {
	return a.e == b.e && slices.Equal(a.l, b.l)
}

// brief is an answer whose list is cut, so that a long one can be told.
func (a answer[T]) brief() answer[T] {
	return answer[T]{l: a.l[:min(len(a.l), 20)], e: a.e}
}

func of[T comparable](l []T, e api.Errno) answer[T] { return answer[T]{l: l, e: e} }

func one[T comparable](x T, e api.Errno) answer[T] { return answer[T]{l: []T{x}, e: e} }

func good[T comparable](l ...T) answer[T] { return answer[T]{l: l, e: api.OK} }

// bad is an error where a list is told, badOne where a number is.
func bad[T comparable](e api.Errno) answer[T] { return answer[T]{e: e} }

func badOne(e api.Errno) answer[int] { return answer[int]{l: []int{0}, e: e} }

// example is a call as it is written, what it answers, and what it is to answer.
type example[T comparable] struct {
	call string
	got  answer[T]
	want answer[T]
}

func checkAll[T comparable](t *testing.T, l []example[T]) {
	t.Helper()
	for _, x := range l {
		if !x.got.is(x.want) {
			t.Errorf("%s: got %v, not %v", x.call, x.got.brief(), x.want.brief())
		}
	}
}

// text, list and signs are a text, numbers and signs as they are written; many is n times the same.
func text(b ...byte) []byte { return b }

func list(l ...uint64) []uint64 { return l }

func signs(l ...bool) []bool { return l }

func many[T any](n int, x T) []T { return slices.Repeat([]T{x}, n) }

// P5.1: Width.
func TestWidth(t *testing.T) {
	for _, x := range []struct {
		n    uint64
		want int
	}{
		{0, 0}, {1, 1}, {2, 2}, {3, 2}, {4, 3}, {5, 3}, {7, 3}, {8, 4}, {255, 8}, {256, 9},
		{1<<31 - 1, 31}, {1 << 31, 32}, {1<<32 - 1, 32}, {1 << 32, 33},
		{1<<63 - 1, 63}, {1 << 63, 64}, {most - 1, 64}, {most, 64},
	} {
		if got := plane.Width(x.n); got != x.want {
			t.Errorf("Width(%d): got %d, not %d", x.n, got, x.want)
		}
	}
}

// P5.1: Bytes.
func TestBytes(t *testing.T) {
	checkAll(t, []example[int]{
		{"none of width 0", one(plane.Bytes(0, 0)), good(0)},
		{"one of width 0", one(plane.Bytes(0, 1)), good(0)},
		{"as many as may be of width 0", one(plane.Bytes(0, 4096)), good(0)},
		{"none of the greatest width", one(plane.Bytes(32, 0)), good(0)},
		{"one of width 1", one(plane.Bytes(1, 1)), good(1)},
		{"seven of width 1", one(plane.Bytes(1, 7)), good(1)},
		{"eight of width 1", one(plane.Bytes(1, 8)), good(1)},
		{"nine of width 1", one(plane.Bytes(1, 9)), good(2)},
		{"two of width 3", one(plane.Bytes(3, 2)), good(1)},
		{"three of width 3", one(plane.Bytes(3, 3)), good(2)},
		{"eleven of width 3", one(plane.Bytes(3, 11)), good(5)},
		{"one of width 8", one(plane.Bytes(8, 1)), good(1)},
		{"one of width 9", one(plane.Bytes(9, 1)), good(2)},
		{"one of width 31", one(plane.Bytes(31, 1)), good(4)},
		{"one of the greatest width", one(plane.Bytes(32, 1)), good(4)},
		{"as many as may be of width 1", one(plane.Bytes(1, 4096)), good(512)},
		{"one less of width 1", one(plane.Bytes(1, 4095)), good(512)},
		{"as many as may be of the greatest width", one(plane.Bytes(32, 4096)), good(16384)},
	})
}

// P5.1: Bytes' errors, and their order.
func TestBytesErrors(t *testing.T) {
	checkAll(t, []example[int]{
		{"a width below 0", one(plane.Bytes(-1, 1)), badOne(api.ErrArg)},
		{"the least width", one(plane.Bytes(math.MinInt, 1)), badOne(api.ErrArg)},
		{"a width too great", one(plane.Bytes(33, 1)), badOne(api.ErrArg)},
		{"a width of all bits", one(plane.Bytes(64, 1)), badOne(api.ErrArg)},
		{"the greatest int as a width", one(plane.Bytes(math.MaxInt, 1)), badOne(api.ErrArg)},
		{"a width below 0, of none", one(plane.Bytes(-1, 0)), badOne(api.ErrArg)},
		{"a width too great, of none", one(plane.Bytes(33, 0)), badOne(api.ErrArg)},
		{"fewer than none", one(plane.Bytes(3, -1)), badOne(api.ErrArg)},
		{"fewer than none of width 0", one(plane.Bytes(0, -1)), badOne(api.ErrArg)},
		{"the fewest", one(plane.Bytes(3, math.MinInt)), badOne(api.ErrArg)},
		{"too many", one(plane.Bytes(3, 4097)), badOne(api.ErrLong)},
		{"too many of width 0", one(plane.Bytes(0, 4097)), badOne(api.ErrLong)},
		{"the most", one(plane.Bytes(32, math.MaxInt)), badOne(api.ErrLong)},
		{"a width below 0, of too many", one(plane.Bytes(-1, 4097)), badOne(api.ErrArg)},
		{"a width too great, of too many", one(plane.Bytes(33, 4097)), badOne(api.ErrArg)},
		{"a width too great, of fewer than none", one(plane.Bytes(33, -1)), badOne(api.ErrArg)},
		{"two that go around", one(plane.Bytes(32, 1<<59)), badOne(api.ErrLong)},
	})
}

// laid are numbers of a width, as they stand side by side, and in planes.
type laid struct {
	width int
	l     []uint64
	side  []byte
	woven []byte
}

func allLaid() []laid {
	return []laid{
		{3, list(5, 2), text(0b10101000), text(0b10011000)},
		{0, nil, nil, nil},
		{0, list(0), nil, nil},
		{0, many(4096, uint64(0)), nil, nil},
		{5, nil, nil, nil},
		{32, nil, nil, nil},
		{1, list(0), text(0), text(0)},
		{1, list(1), text(0b10000000), text(0b10000000)},
		{1, list(1, 0, 1, 1), text(0b10110000), text(0b10110000)},
		{1, list(0, 0, 0, 0, 0, 0, 0, 1), text(1), text(1)},
		{1, list(0, 0, 0, 0, 0, 0, 0, 0, 1), text(0, 128), text(0, 128)},
		{2, list(3, 0, 1), text(0b11000100), text(0b10010100)},
		{2, list(1, 2, 3, 0), text(0b01101100), text(0b01101010)},
		{3, list(1, 2, 4), text(0b00101010, 0), text(0b00101010, 0)},
		{3, list(7, 0, 0), text(0b11100000, 0), text(0b10010010, 0)},
		{3, list(0, 0, 7), text(0b00000011, 0b10000000), text(0b00100100, 0b10000000)},
		{7, list(127), text(0b11111110), text(0b11111110)},
		{8, list(255, 1), text(255, 1), text(0b10101010, 0b10101011)},
		{8, list(1), text(1), text(1)},
		{9, list(256, 1), text(0b10000000, 0b00000000, 0b01000000), text(0b10000000, 0b00000000, 0b01000000)},
		{9, list(511, 0), text(255, 128, 0), text(0b10101010, 0b10101010, 0b10000000)},
		{16, list(0x1234), text(0x12, 0x34), text(0x12, 0x34)},
		{32, list(0x12345678), text(0x12, 0x34, 0x56, 0x78), text(0x12, 0x34, 0x56, 0x78)},
		{32, list(1<<32 - 1), text(255, 255, 255, 255), text(255, 255, 255, 255)},
		{32, list(1<<32-1, 0), text(255, 255, 255, 255, 0, 0, 0, 0), many(8, byte(0b10101010))},
		{1, many(4096, uint64(1)), many(512, byte(255)), many(512, byte(255))},
		{32, many(4096, uint64(1<<32-1)), many(16384, byte(255)), many(16384, byte(255))},
		{8, many(4096, uint64(0b00001111)), many(4096, byte(0b00001111)), append(make([]byte, 2048), many(2048, byte(255))...)},
	}
}

// P5.2: Pack, Weave, Unpack and Unweave.
func TestLaid(t *testing.T) {
	for _, x := range allLaid() {
		if got, want := of(plane.Pack(x.width, x.l...)), good(x.side...); !got.is(want) {
			t.Errorf("Pack(%d, %v): got %v, not %v", x.width, good(x.l...).brief(), got.brief(), want.brief())
		}
		if got, want := of(plane.Weave(x.width, x.l...)), good(x.woven...); !got.is(want) {
			t.Errorf("Weave(%d, %v): got %v, not %v", x.width, good(x.l...).brief(), got.brief(), want.brief())
		}
		if got, want := of(plane.Unpack(x.width, len(x.l), x.side)), good(x.l...); !got.is(want) {
			t.Errorf("Unpack(%d, %d, %v): got %v, not %v", x.width, len(x.l), good(x.side...).brief(), got.brief(), want.brief())
		}
		if got, want := of(plane.Unweave(x.width, len(x.l), x.woven)), good(x.l...); !got.is(want) {
			t.Errorf("Unweave(%d, %d, %v): got %v, not %v", x.width, len(x.l), good(x.woven...).brief(), got.brief(), want.brief())
		}
	}
}

// P5.2: Pack's errors, and Weave's, and their order.
func TestWriteErrors(t *testing.T) {
	for name, write := range map[string]func(width int, l ...uint64) ([]byte, api.Errno){"Pack": plane.Pack, "Weave": plane.Weave} {
		checkAll(t, []example[byte]{
			{name + ", a width below 0", of(write(-1, 0)), bad[byte](api.ErrArg)},
			{name + ", a width below 0, of none", of(write(-1)), bad[byte](api.ErrArg)},
			{name + ", the least width", of(write(math.MinInt, 1)), bad[byte](api.ErrArg)},
			{name + ", a width too great", of(write(33, 1)), bad[byte](api.ErrArg)},
			{name + ", a width too great, of none", of(write(33)), bad[byte](api.ErrArg)},
			{name + ", a width of all bits", of(write(64, most)), bad[byte](api.ErrArg)},
			{name + ", too many", of(write(1, many(4097, uint64(0))...)), bad[byte](api.ErrLong)},
			{name + ", too many of width 0", of(write(0, many(4097, uint64(0))...)), bad[byte](api.ErrLong)},
			{name + ", too many that are none of the width", of(write(1, many(4097, uint64(2))...)), bad[byte](api.ErrLong)},
			{name + ", too many of a width too great", of(write(33, many(4097, uint64(0))...)), bad[byte](api.ErrArg)},
			{name + ", one of width 0", of(write(0, 1)), bad[byte](api.ErrArg)},
			{name + ", one too great by 1", of(write(3, 8)), bad[byte](api.ErrArg)},
			{name + ", one far too great", of(write(3, 1<<63)), bad[byte](api.ErrArg)},
			{name + ", one too great for the greatest width", of(write(32, 1<<32)), bad[byte](api.ErrArg)},
			{name + ", one of all bits", of(write(32, most)), bad[byte](api.ErrArg)},
			{name + ", the first too great", of(write(3, 8, 7, 7)), bad[byte](api.ErrArg)},
			{name + ", the last too great", of(write(3, 7, 7, 8)), bad[byte](api.ErrArg)},
			{name + ", one whose lowest bits are of the width", of(write(3, 1<<32+5, 2)), bad[byte](api.ErrArg)},
			{name + ", the last of as many as may be", of(write(3, append(many(4095, uint64(7)), 8)...)), bad[byte](api.ErrArg)},
		})
	}
}

// P5.2: Unpack's errors, and Unweave's, and their order.
func TestReadErrors(t *testing.T) {
	for name, read := range map[string]func(width, many int, b []byte) ([]uint64, api.Errno){"Unpack": plane.Unpack, "Unweave": plane.Unweave} {
		checkAll(t, []example[uint64]{
			{name + ", a width below 0", of(read(-1, 1, text(0))), bad[uint64](api.ErrArg)},
			{name + ", a width too great", of(read(33, 1, many(5, byte(0)))), bad[uint64](api.ErrArg)},
			{name + ", a width too great, of none", of(read(33, 0, nil)), bad[uint64](api.ErrArg)},
			{name + ", fewer than none", of(read(3, -1, nil)), bad[uint64](api.ErrArg)},
			{name + ", the fewest", of(read(3, math.MinInt, nil)), bad[uint64](api.ErrArg)},
			{name + ", too many", of(read(8, 4097, many(4097, byte(0)))), bad[uint64](api.ErrLong)},
			{name + ", too many of width 0", of(read(0, 4097, nil)), bad[uint64](api.ErrLong)},
			{name + ", the most", of(read(32, math.MaxInt, nil)), bad[uint64](api.ErrLong)},
			{name + ", too many, and fewer bytes", of(read(8, 4097, nil)), bad[uint64](api.ErrLong)},
			{name + ", too many, of a width too great", of(read(33, 4097, nil)), bad[uint64](api.ErrArg)},
			{name + ", no byte", of(read(3, 2, nil)), bad[uint64](api.ErrShape)},
			{name + ", a byte less", of(read(9, 2, text(0, 0))), bad[uint64](api.ErrShape)},
			{name + ", a byte more", of(read(3, 2, text(0, 0))), bad[uint64](api.ErrShape)},
			{name + ", a byte of none", of(read(3, 0, text(0))), bad[uint64](api.ErrShape)},
			{name + ", a byte of width 0", of(read(0, 5, text(0))), bad[uint64](api.ErrShape)},
			{name + ", a byte less, of as many as may be", of(read(32, 4096, many(16383, byte(0)))), bad[uint64](api.ErrShape)},
			{name + ", a byte more, not 0", of(read(3, 2, text(0, 255))), bad[uint64](api.ErrShape)},
			{name + ", a byte more, and something left", of(read(3, 2, text(255, 255))), bad[uint64](api.ErrShape)},
			{name + ", the last bit is left", of(read(3, 2, text(1))), bad[uint64](api.ErrForm)},
			{name + ", the first bit that is left", of(read(3, 2, text(2))), bad[uint64](api.ErrForm)},
			{name + ", the last bit that is not left", of(read(3, 2, text(4))), good[uint64](0, 1)},
			{name + ", all bits", of(read(3, 2, text(255))), bad[uint64](api.ErrForm)},
			{name + ", one bit of one", of(read(1, 1, text(0b01000000))), bad[uint64](api.ErrForm)},
			{name + ", one bit of seven", of(read(1, 7, text(1))), bad[uint64](api.ErrForm)},
			{name + ", one bit of eight", of(read(1, 8, text(1))), good[uint64](0, 0, 0, 0, 0, 0, 0, 1)},
			{name + ", in the last of two bytes", of(read(9, 1, text(0, 0b01000000))), bad[uint64](api.ErrForm)},
			{name + ", in the last of many bytes", of(read(1, 4095, append(many(511, byte(0)), 1))), bad[uint64](api.ErrForm)},
		})
	}
}

// P5.3: Signs, and Read.
func TestSigns(t *testing.T) {
	for _, x := range []struct {
		l []bool
		b []byte
	}{
		{nil, nil},
		{signs(true), text(128)},
		{signs(false), text(0)},
		{signs(true, false), text(128)},
		{signs(false, true), text(64)},
		{signs(false, false, false, false, false, false, false, true), text(1)},
		{signs(false, false, false, false, false, false, false, false, true), text(0, 128)},
		{signs(true, false, false, true, true, false, true, true, true), text(0b10011011, 128)},
		{many(4096, true), many(512, byte(255))},
		{many(4095, true), append(many(511, byte(255)), 254)},
		{many(4096, false), many(512, byte(0))},
	} {
		if got, want := of(plane.Signs(x.l...)), good(x.b...); !got.is(want) {
			t.Errorf("Signs(%v): got %v, not %v", good(x.l...).brief(), got.brief(), want.brief())
		}
		if got, want := of(plane.Read(len(x.l), x.b)), good(x.l...); !got.is(want) {
			t.Errorf("Read(%d, %v): got %v, not %v", len(x.l), good(x.b...).brief(), got.brief(), want.brief())
		}
	}
}

// P5.3: the errors of Signs, and those of Read and their order.
func TestSignsErrors(t *testing.T) {
	checkAll(t, []example[byte]{
		{"too many", of(plane.Signs(many(4097, false)...)), bad[byte](api.ErrLong)},
		{"far too many", of(plane.Signs(many(1<<20, true)...)), bad[byte](api.ErrLong)},
	})
	checkAll(t, []example[bool]{
		{"fewer than none", of(plane.Read(-1, nil)), bad[bool](api.ErrArg)},
		{"the fewest", of(plane.Read(math.MinInt, nil)), bad[bool](api.ErrArg)},
		{"too many to read", of(plane.Read(4097, many(513, byte(0)))), bad[bool](api.ErrLong)},
		{"the most to read", of(plane.Read(math.MaxInt, nil)), bad[bool](api.ErrLong)},
		{"no byte", of(plane.Read(1, nil)), bad[bool](api.ErrShape)},
		{"a byte of none", of(plane.Read(0, text(0))), bad[bool](api.ErrShape)},
		{"a byte less", of(plane.Read(9, text(0))), bad[bool](api.ErrShape)},
		{"a byte more", of(plane.Read(8, text(0, 0))), bad[bool](api.ErrShape)},
		{"a byte more, and something left", of(plane.Read(7, text(1, 0))), bad[bool](api.ErrShape)},
		{"the last bit is left", of(plane.Read(7, text(1))), bad[bool](api.ErrForm)},
		{"the first bit that is left", of(plane.Read(1, text(64))), bad[bool](api.ErrForm)},
		{"in the last of two bytes", of(plane.Read(9, text(255, 255))), bad[bool](api.ErrForm)},
	})
}
