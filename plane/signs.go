package plane

import "thrum/api"

// signWidth is how wide a sign is.
const signWidth = 1

// Signs is signs as numbers side by side, 1 of true.
func Signs(l ...bool) ([]byte, api.Errno) {
	// Asked ahead, as numbers take more room than signs.
	if _, e := Bytes(signWidth, len(l)); e != api.OK {
		return nil, e
	}
	numbers := make([]uint64, len(l))
	for i, sign := range l {
		if sign {
			numbers[i] = 1
		}
	}
	return Pack(signWidth, numbers...)
}

// Read is the signs that stand side by side.
func Read(many int, b []byte) ([]bool, api.Errno) {
	numbers, e := Unpack(signWidth, many, b)
	if e != api.OK {
		return nil, e
	}
	l := make([]bool, many)
	for i, n := range numbers {
		l[i] = n == 1
	}
	return l, api.OK
}
