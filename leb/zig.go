package leb

import "thrum/api"

// Zig is a signed number's number: small ones have small ones, whatever their sign.
func Zig(n int64) uint64 {
	if n < 0 {
		// Of the flipped number, -n - 1, twice and 1 has a place, also of the least number.
		return uint64(^n)<<1 | 1
	}
	return uint64(n) << 1
}

// Zag is the signed number of a number.
func Zag(n uint64) int64 {
	half := int64(n >> 1)
	if n%2 == 1 {
		return ^half
	}
	return half
}

// Signed is a text, and signed numbers' codes behind it.
func Signed(b []byte, n ...int64) []byte {
	l := make([]uint64, len(n))
	for i, x := range n {
		l[i] = Zig(x)
	}
	return Put(b, l...)
}

// Take is the signed number whose code stands at a place, and the place behind it.
func Take(b []byte, at int) (int64, int, api.Errno) {
	n, next, e := Get(b, at)
	if e != api.OK {
		return 0, 0, e
	}
	return Zag(n), next, api.OK
}
