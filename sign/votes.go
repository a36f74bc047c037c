package sign

import "thrum/api"

// Votes is what more than half say, place by place.
func Votes(l ...[]bool) ([]bool, api.Errno) {
	if e := match(l); e != api.OK || len(l) == 0 {
		return nil, e
	}
	votes := make([]int, len(l[0]))
	for _, signs := range l {
		for at, yes := range signs {
			if yes {
				votes[at]++
			}
		}
	}
	return each(votes, func(yes int) bool { return yes > len(l)/2 }), api.OK
}

// Turns is at how many places two differ.
func Turns(a, b []bool) (int, api.Errno) {
	if e := match([][]bool{a, b}); e != api.OK {
		return 0, e
	}
	turns := 0
	for at, one := range a {
		if one != b[at] {
			turns++
		}
	}
	return turns, api.OK
}

// match tells whether lists are no longer than a vector, and as long as one another; whether one is too long comes first, also of the last one.
func match(l [][]bool) api.Errno {
	for _, signs := range l {
		if len(signs) > api.MaxDim {
			return api.ErrLong
		}
	}
	for _, signs := range l {
		if len(signs) != len(l[0]) {
			return api.ErrShape
		}
	}
	return api.OK
}
