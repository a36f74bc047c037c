package draw

import (
	"slices"

	"thrum/api"
)

// Order is the numbers below many, in an order that is drawn.
func Order(many int, seed uint64, n ...int) ([]int, api.Errno) {
	switch {
	case many < 0:
		return nil, api.ErrArg
	case many > api.MaxDim:
		return nil, api.ErrLong
	}
	order := make([]int, many)
	for i := range order {
		order[i] = i
	}
	// Each place's draw is for n and the place; what n makes of the seed is the same for all of them. (Nor may the place be put behind n, where the caller may have something.)
	blended := blend(seed, n)
	for i := many - 1; i >= 1; i-- {
		with := At(blended, i) % uint64(i+1)
		order[i], order[with] = order[with], order[i]
	}
	return order, api.OK
}

// Pick is so many of the numbers below of: the first ones of an order that is drawn.
func Pick(many, of int, seed uint64, n ...int) ([]int, api.Errno) {
	if many < 0 || many > of {
		return nil, api.ErrArg
	}
	order, e := Order(of, seed, n...)
	if e != api.OK {
		return nil, e
	}
	return slices.Clone(order[:many]), api.OK
}
