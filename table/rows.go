package table

import (
	"thrum/api"
	"thrum/fix"
)

const (
	// rowBits is how many bits behind the point tell the row, last which row is half of the first one.
	rowBits = 4
	last    = 1 << rowBits
	// one is what stands in the first row.
	one = 1 << api.MaxFrac
)

// roots is a table of powers of two, from 1 to a half, each of which is the one ahead of it by one and the same root.
type roots [last + 1]uint64

// makeRows is the table, whose rows between two that are there are the root of their product.
func makeRows() roots {
	rows := roots{0: one, last: one / 2}
	for step := last / 2; step > 0; step /= 2 {
		for at := step; at < last; at += 2 * step {
			rows[at] = Root(rows[at-step] * rows[at+step])
		}
	}
	return rows
}

// exp is a power of two; x is its exponent, with frac bits behind the point.
func (r roots) exp(x int64, frac int) (int64, api.Errno) {
	if !behind(frac) || x > 0 {
		return 0, api.ErrArg
	}
	size, e := fix.Neg(x)
	if e != api.OK {
		return 0, e
	}
	whole, part := uint64(size)>>frac, uint64(size)%(1<<frac)
	// Shifted up ahead of down, a part of fewer bits than tell a row has zeros behind it.
	row := part << rowBits >> frac
	// The whole is added without a sign: the greatest one and MaxFrac go over otherwise.
	return int64(r[row] >> (whole + api.MaxFrac - uint64(frac))), api.OK
}

// powers are those of numbers less the greatest one, so that none is above 1, and one is 1.
func (r roots) powers(z []int64, greatest int64, frac int) ([]int64, api.Errno) {
	l := make([]int64, len(z))
	for i, number := range z {
		x, e := fix.Sub(number, greatest)
		if e != api.OK {
			return nil, e
		}
		l[i], e = r.exp(x, frac)
		if e != api.OK {
			return nil, e
		}
	}
	return l, api.OK
}
