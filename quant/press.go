package quant

import (
	"slices"

	"thrum/api"
	"thrum/draw"
	"thrum/plane"
	"thrum/vec"
)

// Press is a vector in levels of its greatest number.
func Press(v []int64, wide int, seed uint64, n ...int) (api.Sent, api.Errno) {
	if _, e := Steps(wide); e != api.OK {
		return api.Sent{}, e
	}
	if len(v) == 0 {
		return api.Sent{}, api.ErrArg
	}
	scale, e := vec.Most(v...)
	if e != api.OK {
		return api.Sent{}, e
	}
	levels, signs := make([]uint64, len(v)), make([]bool, len(v))
	up := chance(uint64(scale), seed, n)
	for at, number := range v {
		level, rest := levelOf(number, scale, wide)
		if up(at, rest) {
			level++
		}
		levels[at], signs[at] = level, number < 0
	}
	return api.Sent{Scheme: api.LevelS, Dim: len(v), Scale: scale, Wide: wide, Lev: levels, Neg: signs}, api.OK
}

// Loosen is the vector that levels stand for.
func Loosen(s api.Sent) ([]int64, api.Errno) {
	if !may(s) {
		return nil, api.ErrArg
	}
	v := make([]int64, s.Dim)
	for at, level := range s.Lev {
		// Nothing is wrong with a level of a vector that may be.
		v[at], _ = Value(level, s.Scale, s.Wide)
		if s.Neg[at] {
			v[at] = -v[at]
		}
	}
	return v, api.OK
}

// Near tells whether a vector is pressed so, however chance has it.
func Near(v []int64, s api.Sent) bool {
	if !may(s) || s.Dim != len(v) {
		return false
	}
	if scale, e := vec.Most(v...); e != api.OK || scale != s.Scale {
		return false
	}
	return each(v, func(at int, number int64) bool {
		level, rest := levelOf(number, s.Scale, s.Wide)
		return s.Neg[at] == (number < 0) && (s.Lev[at] == level || rest != 0 && s.Lev[at] == level+1)
	})
}

// chance tells of a place whether its level is one more, with such a rest. It has a list of its own to put the place behind the numbers: room behind the caller's is the caller's.
func chance(scale, seed uint64, n []int) func(at int, rest uint64) bool {
	numbers := append(slices.Clone(n), 0)
	return func(at int, rest uint64) bool {
		numbers[len(n)] = at
		// Of a scale of 0 nothing can be drawn: there is no rest then, and nothing is one more.
		up, _ := draw.Chance(rest, scale, seed, numbers...)
		return up
	}
}

// levelOf is the level, and the rest, of a number of a vector whose greatest number is the scale: no size is above it, so that nothing is wrong.
func levelOf(number, scale int64, wide int) (uint64, uint64) {
	level, rest, _ := Level(number, scale, wide)
	return level, rest
}

// each tells whether all numbers are as is tells of a place and the number that stands there.
func each(v []int64, is func(at int, number int64) bool) bool {
	for at, number := range v {
		if !is(at, number) {
			return false
		}
	}
	return true
}

// may tells whether a vector is one in levels that may be, as package frame has it, on which this one does not stand.
func may(s api.Sent) bool {
	return s.Scheme == api.LevelS && s.Dim >= 1 && s.Dim <= api.MaxDim &&
		len(s.L) == 0 && len(s.V) == 0 &&
		s.Scale >= 0 && len(s.Neg) == s.Dim && levels(s)
}

// levels tells whether a vector has as many levels as numbers, of a width that may be.
func levels(s api.Sent) bool {
	if _, e := Steps(s.Wide); e != api.OK {
		return false
	}
	return len(s.Lev) == s.Dim &&
		!slices.ContainsFunc(s.Lev, func(level uint64) bool { return plane.Width(level) > s.Wide })
}
