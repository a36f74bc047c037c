package index

import (
	"thrum/api"
	"thrum/leb"
)

// Put is the code of places of a dimension.
func Put(dim int, l ...int) ([]byte, api.Errno) {
	if e := Check(dim, l...); e != api.OK {
		return nil, e
	}
	return leb.Put(nil, numbers(l)...), api.OK
}

// numbers are what a code is made of: how many places there are, and how many places each one leaves out ahead of it.
func numbers(l []int) []uint64 {
	n := append(make([]uint64, 0, len(l)+1), uint64(len(l)))
	next := 0
	for _, at := range l {
		n = append(n, uint64(at-next))
		next = at + 1
	}
	return n
}

// Get is the places whose code stands at a place of a text, and the place behind it.
func Get(dim int, b []byte, at int) ([]int, int, api.Errno) {
	if !may(dim) {
		return nil, 0, api.ErrArg
	}
	many, at, e := leb.Get(b, at)
	if e != api.OK {
		return nil, 0, e
	}
	if many > uint64(dim) {
		return nil, 0, api.ErrForm
	}
	return places(dim, int(many), b, at)
}

// places are so many, told by how many each one leaves out ahead of it.
func places(dim, many int, b []byte, at int) ([]int, int, api.Errno) {
	l := make([]int, many)
	next := 0
	for i := range l {
		out, behind, e := leb.Get(b, at)
		if e != api.OK {
			return nil, 0, e
		}
		// Asked ahead of the sum, which might go around.
		if out >= uint64(dim-next) {
			return nil, 0, api.ErrForm
		}
		l[i] = next + int(out)
		next, at = l[i]+1, behind
	}
	return l, at, api.OK
}
