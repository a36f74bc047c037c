package fix

import (
	"math/bits"

	"thrum/api"
)

// product is a whole number of 128 bits with a sign: the upper 64 bits, then the lower ones.
type product [2]uint64

// whole is a number as a product.
func whole(n int64) product {
	return product{uint64(n >> 63), uint64(n)}
}

// times is the product of two numbers; none goes over 128 bits.
func times(a, b int64) product {
	hi, lo := bits.Mul64(uint64(a), uint64(b))
	// Mul64 takes a number below 0 for one that is greater by 2^64.
	if a < 0 {
		hi -= uint64(b)
	}
	if b < 0 {
		hi -= uint64(a)
	}
	return product{hi, lo}
}

// shift is a product by 2^by, down; by is 0 to 64.
func (p product) shift(by int) product {
	return product{uint64(int64(p[0]) >> by), p[0]<<(64-by) | p[1]>>by}
}

// flip is the opposite, less 1.
func (p product) flip() product {
	return product{^p[0], ^p[1]}
}

// over is a product by size, down; size is not 0.
func (p product) over(size uint64) product {
	if int64(p[0]) < 0 {
		// Cutting off goes up below 0; between the flipped numbers it goes down.
		return p.flip().over(size).flip()
	}
	hi, rest := p[0]/size, p[0]%size
	lo, _ := bits.Div64(rest, p[1], size)
	return product{hi, lo}
}

// number is the product as a number. One that goes over is not the same any more when its upper half is left away.
func (p product) number() (int64, api.Errno) {
	n := int64(p[1])
	if p != whole(n) {
		return 0, api.ErrOver
	}
	return n, api.OK
}
