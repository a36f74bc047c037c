package vec

import (
	"thrum/api"
	"thrum/fix"
)

// match tells whether two are vectors that are as long as one another.
func match(a, b []int64) api.Errno {
	if e := Check(a...); e != api.OK {
		return e
	}
	if e := Check(b...); e != api.OK {
		return e
	}
	if len(a) != len(b) {
		return api.ErrShape
	}
	return api.OK
}

// behind tells what fix.Mul says of frac; it is asked ahead of the numbers, as there may be none.
func behind(frac int) api.Errno {
	_, e := fix.Mul(0, 0, frac)
	return e
}

// bound tells what fix.Clip says of most; it is asked ahead of the numbers, as there may be none.
func bound(most int64) api.Errno {
	_, e := fix.Clip(0, most)
	return e
}

// list is n numbers, each told by its place, or the first error.
func list(n int, number func(int) (int64, api.Errno)) ([]int64, api.Errno) {
	l := make([]int64, n)
	for i := range l {
		x, e := number(i)
		if e != api.OK {
			return nil, e
		}
		l[i] = x
	}
	return l, api.OK
}

// total is n numbers added up, each told by its place, or the first error. A sum that goes over on the way is one, even if later numbers would bring it back.
func total(n int, number func(int) (int64, api.Errno)) (int64, api.Errno) {
	sum := int64(0)
	for i := range n {
		x, e := number(i)
		if e != api.OK {
			return 0, e
		}
		sum, e = fix.Add(sum, x)
		if e != api.OK {
			return 0, e
		}
	}
	return sum, api.OK
}
