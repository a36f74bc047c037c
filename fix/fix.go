// Package fix reckons with whole numbers of 64 bits, some of whose bits stand behind a point, and tells when a number goes over.
package fix

import "thrum/api"

// Add is a sum.
func Add(a, b int64) (int64, api.Errno) {
	sum := a + b
	if (sum < a) != (b < 0) {
		return 0, api.ErrOver
	}
	return sum, api.OK
}

// Sub is a difference. It does not add the opposite, as the least number has none.
func Sub(a, b int64) (int64, api.Errno) {
	rest := a - b
	if (rest > a) != (b < 0) {
		return 0, api.ErrOver
	}
	return rest, api.OK
}

// Neg is the opposite.
func Neg(a int64) (int64, api.Errno) {
	return Sub(0, a)
}

// Abs is a number's size.
func Abs(a int64) (int64, api.Errno) {
	if a < 0 {
		return Neg(a)
	}
	return a, api.OK
}

// Clip is the number nearest to a that is no greater than most, whatever its sign.
func Clip(a, most int64) (int64, api.Errno) {
	if most < 0 {
		return 0, api.ErrArg
	}
	return max(-most, min(a, most)), api.OK
}

// Wide is a whole product: the first number times 2^64, and the second one.
func Wide(a, b int64) (int64, uint64) {
	p := times(a, b)
	return int64(p[0]), p[1]
}

// Mul is a product of numbers with frac bits behind the point, down.
func Mul(a, b int64, frac int) (int64, api.Errno) {
	if !behind(frac) {
		return 0, api.ErrArg
	}
	return times(a, b).shift(frac).number()
}

// Div is a quotient of numbers with frac bits behind the point, down.
func Div(a, b int64, frac int) (int64, api.Errno) {
	if !behind(frac) || b == 0 {
		return 0, api.ErrArg
	}
	one, size := int64(1)<<frac, uint64(b)
	if b < 0 {
		// Both signs are turned, so that only what is divided may be below 0.
		one, size = -one, -size
	}
	return times(a, one).over(size).number()
}

// Quot is a quotient of whole numbers, down.
func Quot(a, b int64) (int64, api.Errno) {
	return Div(a, b, 0)
}

// maxShift is by how many bits a number is shifted at the most.
const maxShift = 62

// Shift is a number by a power of two, down.
func Shift(a int64, by int) (int64, api.Errno) {
	if by < 0 || by > maxShift {
		return 0, api.ErrArg
	}
	return a >> by, api.OK
}

// behind tells whether there may be so many bits behind the point.
func behind(frac int) bool {
	return frac >= 0 && frac <= api.MaxFrac
}
