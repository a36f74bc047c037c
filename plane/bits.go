package plane

import (
	"slices"

	"thrum/api"
)

// order tells where among all bits one goes: of which number it is, and which of its bits, the highest being the first; all from 0 on.
type order func(number, bit int) int

func sideBySide(width int) order {
	return func(number, bit int) int { return number*width + bit }
}

func inPlanes(many int) order {
	return func(number, bit int) int { return bit*many + number }
}

// write is numbers in bytes, each bit where place tells.
func write(width int, l []uint64, place order) ([]byte, api.Errno) {
	size, e := Bytes(width, len(l))
	if e != api.OK {
		return nil, e
	}
	if slices.ContainsFunc(l, func(n uint64) bool { return Width(n) > width }) {
		return nil, api.ErrArg
	}
	b := make([]byte, size)
	for i, n := range l {
		for bit := range width {
			at := place(i, bit)
			b[at/perByte] |= byte(n>>(width-1-bit)&1) << shift(at)
		}
	}
	return b, api.OK
}

// read is numbers out of bytes, each bit from where place tells.
func read(width, many int, b []byte, place order) ([]uint64, api.Errno) {
	size, e := Bytes(width, many)
	switch {
	case e != api.OK:
		return nil, e
	case len(b) != size:
		return nil, api.ErrShape
	case left(b, width*many):
		return nil, api.ErrForm
	}
	l := make([]uint64, many)
	for i := range l {
		for bit := range width {
			l[i] = l[i]<<1 | uint64(one(b, place(i, bit)))
		}
	}
	return l, api.OK
}

// left tells whether a bit is 1 behind so many.
func left(b []byte, many int) bool {
	for at := many; at < perByte*len(b); at++ {
		if one(b, at) == 1 {
			return true
		}
	}
	return false
}

// one is the bit at a place.
func one(b []byte, at int) byte {
	return b[at/perByte] >> shift(at) & 1
}

// shift is how far from its byte's lowest bit one is, as each byte's highest comes first.
func shift(at int) int {
	return perByte - 1 - at%perByte
}
