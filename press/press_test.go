package press_test

import (
	"math"
	"slices"
	"testing"

	"thrum/api"
	"thrum/frame"
	"thrum/press"
)

const (
	most = math.MaxInt64
	low  = math.MinInt64
)

// way, vector and list are as they are written; many is so many numbers, that go up and down.
func way(scheme, k, wide int) api.How { return api.How{Scheme: scheme, K: k, Wide: wide} }

func vector(v ...int64) []int64 { return v }

func list(l ...int) []int { return l }

func many(n int) []int64 {
	v := make([]int64, n)
	for i := range v {
		v[i] = int64(i*2654435761%1009 - 504)
	}
	return v
}

// below is which numbers are below 0, each as the sign that it has.
func below(signs string) []bool {
	l := make([]bool, len(signs))
	for i := range l {
		l[i] = signs[i] == '-'
	}
	return l
}

// dense, places, levels and signs are vectors pressed in the four ways.
func dense(v ...int64) api.Sent {
	return api.Sent{Scheme: api.DenseS, Dim: len(v), V: v}
}

func places(dim int, l []int, v ...int64) api.Sent {
	return api.Sent{Scheme: api.TopS, Dim: dim, L: l, V: v}
}

func levels(scale int64, wide int, neg string, lev ...uint64) api.Sent {
	return api.Sent{Scheme: api.LevelS, Dim: len(neg), Scale: scale, Wide: wide, Lev: lev, Neg: below(neg)}
}

func signs(scale int64, neg string) api.Sent {
	return api.Sent{Scheme: api.SignS, Dim: len(neg), Scale: scale, Neg: below(neg)}
}

// same tells whether all parts of two are the same; a list without elements is nil or empty.
func same(a, b api.Sent) bool {
	return frame.Same(api.Frame{S: a}, api.Frame{S: b})
}

// example is a vector, what it is pressed to, what that is loosened to, what is left, and how many bytes it takes.
type example struct {
	h     api.How
	v     []int64
	seed  uint64
	n     []int
	s     api.Sent
	loose []int64
	left  []int64
	bytes int
}

// examples are as another program works them out.
func examples() map[string]example {
	return map[string]example{
		"all numbers":                {way(0, 0, 0), vector(3, -5, 0, 7), 1, list(), dense(3, -5, 0, 7), vector(3, -5, 0, 7), vector(0, 0, 0, 0), 6},
		"all of the greatest":        {way(0, 0, 0), vector(low, most, 0, -1), 1, list(), dense(low, most, 0, -1), vector(low, most, 0, -1), vector(0, 0, 0, 0), 24},
		"one alone":                  {way(0, 0, 0), vector(-64), 1, list(), dense(-64), vector(-64), vector(0), 3},
		"the chapter's":              {way(1, 1, 0), vector(3, -5), 1, list(), places(2, list(1), -5), vector(0, -5), vector(3, 0), 5},
		"no places":                  {way(1, 0, 0), vector(3, -5), 1, list(), places(2, list()), vector(0, 0), vector(3, -5), 3},
		"two of four":                {way(1, 2, 0), vector(3, -5, 5, 1), 1, list(), places(4, list(1, 2), -5, 5), vector(0, -5, 5, 0), vector(3, 0, 0, 1), 7},
		"the least first":            {way(1, 1, 0), vector(most, low, -most), 1, list(), places(3, list(1), low), vector(0, low, 0), vector(most, 0, -most), 14},
		"one of the same":            {way(1, 1, 0), vector(0, 7, -7, 7), 1, list(), places(4, list(1), 7), vector(0, 7, 0, 0), vector(0, 0, -7, 7), 5},
		"all places":                 {way(1, 3, 0), vector(0, -1, 300), 1, list(), places(3, list(0, 1, 2), 0, -1, 300), vector(0, -1, 300), vector(0, 0, 0), 10},
		"of zeros":                   {way(1, 2, 0), vector(0, 0, 0), 1, list(), places(3, list(0, 1), 0, 0), vector(0, 0, 0), vector(0, 0, 0), 7},
		"one bit":                    {way(2, 0, 1), vector(10, -7, 0, 3), 1, list(), levels(10, 1, "+-++", 1, 1, 0, 0), vector(10, -10, 0, 0), vector(0, 3, 0, 3), 6},
		"two bits":                   {way(2, 0, 2), vector(10, -7, 0, 3, -1, 9), 9, list(4, 9), levels(10, 2, "+-++-+", 3, 2, 0, 1, 0, 2), vector(10, -6, 0, 3, 0, 6), vector(0, -1, 0, 0, -1, 3), 7},
		"two bits, another seed":     {way(2, 0, 2), vector(10, -7, 0, 3, -1, 9), 13, list(4, 9), levels(10, 2, "+-++-+", 3, 2, 0, 0, 1, 2), vector(10, -6, 0, 0, -3, 6), vector(0, -1, 0, 3, 2, 3), 7},
		"two bits, turned":           {way(2, 0, 2), vector(10, -7, 0, 3, -1, 9), 9, list(9, 4), levels(10, 2, "+-++-+", 3, 2, 0, 1, 1, 3), vector(10, -6, 0, 3, -3, 10), vector(0, -1, 0, 0, 2, -1), 7},
		"two bits, one number more":  {way(2, 0, 2), vector(10, -7, 0, 3, -1, 9), 9, list(4, 9, 0), levels(10, 2, "+-++-+", 3, 2, 0, 1, 1, 3), vector(10, -6, 0, 3, -3, 10), vector(0, -1, 0, 0, 2, -1), 7},
		"three bits":                 {way(2, 0, 3), vector(-100, 1, 2, 3, 50, -99, 97), math.MaxUint64, list(-4), levels(100, 3, "-++++-+", 7, 0, 0, 0, 4, 7, 7), vector(-100, 0, 0, 0, 57, -100, 100), vector(0, 1, 2, 3, -7, 1, -3), 8},
		"eight bits":                 {way(2, 0, 8), vector(1000, -1, 2, -3, 500, -999), 1 << 63, list(7, 0, low), levels(1000, 8, "+-+-+-", 255, 1, 0, 1, 128, 255), vector(1000, -3, 0, -3, 501, -1000), vector(0, 2, 2, 0, -1, 1), 12},
		"eight bits of the greatest": {way(2, 0, 8), vector(most, -most, 1, -1, 4611686018427387903), 3, list(), levels(most, 8, "+-+-+", 255, 255, 0, 1, 127), vector(most, -most, 0, -36170086419038336, 4593600975217868735), vector(0, 0, 1, 36170086419038335, 18085043209519168), 18},
		"levels of zeros":            {way(2, 0, 4), vector(0, 0), 1, list(), levels(0, 4, "++", 0, 0), vector(0, 0), vector(0, 0), 6},
		"the mean's signs":           {way(3, 0, 0), vector(3, -5, 0), 1, list(), signs(2, "+-+"), vector(2, -2, 2), vector(1, -3, -2), 4},
		"signs of the greatest":      {way(3, 0, 0), vector(-most), 1, list(), signs(most, "-"), vector(-most), vector(0), 12},
		"signs of nearly nothing":    {way(3, 0, 0), vector(0, 0, 0, -1), 1, list(), signs(0, "+++-"), vector(0, 0, 0, 0), vector(0, 0, 0, -1), 4},
		"nine signs":                 {way(3, 0, 0), vector(1, -2, 3, -4, 5, -6, 7, -8, -9), 1, list(), signs(5, "+-+-+-+--"), vector(5, -5, 5, -5, 5, -5, 5, -5, -5), vector(-4, 3, -2, 1, 0, -1, 2, -3, -4), 5},
	}
}

// P12.1: Press, as another program works it out.
func TestPress(t *testing.T) {
	for name, x := range examples() {
		if got, e := press.Press(x.h, x.v, x.seed, x.n...); !same(got, x.s) || e != api.OK {
			t.Errorf("%s: got %v, %d, not %v", name, got, e, x.s)
		}
	}
}

// P12.1: on the seed, and on what is drawn for, levels hang alone.
func TestOnlyLevelsAreDrawn(t *testing.T) {
	v := many(100)
	for _, h := range []api.How{way(0, 0, 0), way(1, 40, 0), way(2, 0, 4), way(3, 0, 0)} {
		first, _ := press.Press(h, v, 7, 4, 9)
		for i, x := range []struct {
			seed uint64
			n    []int
		}{{8, list(4, 9)}, {7, list(9, 4)}, {7, list(4)}, {7, list(4, 9, 0)}, {7, nil}, {7, list(4, 10)}} {
			got, e := press.Press(h, v, x.seed, x.n...)
			if same(got, first) != (h.Scheme != api.LevelS) || e != api.OK {
				t.Errorf("%v, %d: got %v, %d", h, i, got, e)
			}
		}
	}
}

// ways are ways of each scheme that may be for a dimension, at the edges.
func ways(dim int) []api.How {
	return []api.How{way(0, 0, 0), way(1, 0, 0), way(1, 1, 0), way(1, (dim+1)/2, 0), way(1, dim, 0), way(2, 0, 1), way(2, 0, 3), way(2, 0, 8), way(3, 0, 0)}
}

// wrong are ways that may be for no dimension up to 5.
func wrong() []api.How {
	return []api.How{
		way(-1, 0, 0), way(4, 0, 0), way(most, 0, 0), way(low, 0, 0), way(4, 1, 1),
		way(0, 1, 0), way(0, -1, 0), way(0, 0, 1), way(0, 0, -1), way(0, 1, 1), way(0, most, 0), way(0, 0, low),
		way(1, -1, 0), way(1, 6, 0), way(1, low, 0), way(1, most, 0), way(1, 1, 1), way(1, 0, -1), way(1, 1, 8),
		way(2, 0, 0), way(2, 0, 9), way(2, 0, -1), way(2, 0, low), way(2, 0, most), way(2, 1, 1), way(2, -1, 8), way(2, 5, 0),
		way(3, 1, 0), way(3, -1, 0), way(3, 0, 1), way(3, 0, -1), way(3, 1, 8),
	}
}

// P12.1: Check, of ways that may be and of ways that may not.
func TestCheck(t *testing.T) {
	for _, dim := range []int{1, 2, 5, api.MaxDim - 1, api.MaxDim} {
		for _, h := range ways(dim) {
			if e := press.Check(h, dim); e != api.OK {
				t.Errorf("%v, %d: got %d", h, dim, e)
			}
		}
	}
	for _, dim := range []int{0, -1, low, api.MaxDim + 1, most} {
		for _, h := range append(ways(3), wrong()...) {
			if e := press.Check(h, dim); e != api.ErrArg {
				t.Errorf("%v, %d: got %d", h, dim, e)
			}
		}
	}
	for dim := 1; dim <= 5; dim++ {
		for _, h := range append(wrong(), way(1, dim+1, 0)) {
			if e := press.Check(h, dim); e != api.ErrArg {
				t.Errorf("%v, %d: got %d", h, dim, e)
			}
		}
	}
}

// mayByWords tells whether a way may be for a dimension, as the chapter's words tell it.
func mayByWords(h api.How, dim int) bool {
	k, wide := h.K == 0, h.Wide == 0
	switch h.Scheme {
	case 1:
		k = 0 <= h.K && h.K <= dim
	case 2:
		wide = 1 <= h.Wide && h.Wide <= 8
	}
	return 0 <= h.Scheme && h.Scheme <= 3 && 1 <= dim && dim <= 4096 && k && wide
}

// P12.1: Check, of all small ways, is as the words tell it.
func TestCheckIsAsTheWordsTell(t *testing.T) {
	for _, dim := range []int{-1, 0, 1, 2, 3, 4, 4095, 4096, 4097} {
		for scheme := -2; scheme <= 6; scheme++ {
			for wide := -2; wide <= 11; wide++ {
				for _, k := range []int{-2, -1, 0, 1, 2, 3, 4, 5, 4095, 4096, 4097} {
					h := way(scheme, k, wide)
					want := map[bool]api.Errno{true: api.OK, false: api.ErrArg}[mayByWords(h, dim)]
					if e := press.Check(h, dim); e != want {
						t.Errorf("%v, %d: got %d, not %d", h, dim, e, want)
					}
				}
			}
		}
	}
}

// fault is what is pressed, and what is wrong with it.
type fault struct {
	h api.How
	v []int64
	e api.Errno
}

// faults are vectors that are not pressed, and which of two errors comes first.
func faults() map[string]fault {
	long := make([]int64, api.MaxDim+1)
	long[0], long[1] = low, most
	return map[string]fault{
		"too many":                        {way(0, 0, 0), long, api.ErrLong},
		"too many for places":             {way(1, 1, 0), long, api.ErrLong},
		"too many for levels":             {way(2, 0, 1), long, api.ErrLong},
		"too many for signs":              {way(3, 0, 0), long, api.ErrLong},
		"too many, of no scheme":          {way(4, 0, 0), long, api.ErrLong},
		"too many, as many places":        {way(1, api.MaxDim+1, 0), long, api.ErrLong},
		"too many, of a width too great":  {way(2, 0, 9), long, api.ErrLong},
		"far too many":                    {way(0, 0, 1), make([]int64, 5*api.MaxDim), api.ErrLong},
		"no numbers":                      {way(0, 0, 0), nil, api.ErrArg},
		"no numbers for places":           {way(1, 0, 0), vector(), api.ErrArg},
		"no numbers for levels":           {way(2, 0, 1), vector(), api.ErrArg},
		"no numbers for signs":            {way(3, 0, 0), nil, api.ErrArg},
		"more places than numbers":        {way(1, 3, 0), vector(3, -5), api.ErrArg},
		"the least in levels":             {way(2, 0, 8), vector(low), api.ErrOver},
		"the least in levels, at the end": {way(2, 0, 1), vector(1, 2, low), api.ErrOver},
		"the least, of no width":          {way(2, 0, 0), vector(low), api.ErrArg},
		"the least, of a width too great": {way(2, 0, 9), vector(low), api.ErrArg},
		"the least, of places and levels": {way(2, 1, 8), vector(low), api.ErrArg},
		"the least's sign":                {way(3, 0, 0), vector(low), api.ErrOver},
		"signs of more than has a place":  {way(3, 0, 0), vector(most, -1), api.ErrOver},
		"that, with a place":              {way(3, 1, 0), vector(most, -1), api.ErrArg},
		"that, of a width":                {way(3, 0, 1), vector(most, -1), api.ErrArg},
	}
}

// P12.1: Press' errors, in their order, beside which all is zero.
func TestPressErrors(t *testing.T) {
	for name, x := range faults() {
		if got, e := press.Press(x.h, x.v, 1, 2); !same(got, api.Sent{}) || e != x.e {
			t.Errorf("%s: got %v, %d, not %d", name, got.Dim, e, x.e)
		}
	}
	for _, h := range wrong() {
		for _, v := range [][]int64{vector(3, -5), vector(low, most, -1), nil} {
			if got, e := press.Press(h, v, 1, 2); !same(got, api.Sent{}) || e != api.ErrArg {
				t.Errorf("%v, %v: got %v, %d", h, v, got, e)
			}
		}
	}
}

// long is a way, of how many numbers; what is loosened is told by its numbers added up, each as often as its place, from one on.
type long struct {
	h     api.How
	of    int
	sum   int64
	bytes int
}

// longOnes are as another program works them out, drawn for seed 12345, 3 and 4.
func longOnes() []long {
	return []long{
		{way(0, 0, 0), 100, -82124, 189}, {way(0, 0, 0), 4095, -3680015, 7674}, {way(0, 0, 0), 4096, -1996559, 7676},
		{way(1, 0, 0), 4096, 0, 4}, {way(1, 1, 0), 4096, -504, 7}, {way(1, 500, 0), 4095, -1479840, 1505}, {way(1, 4096, 0), 4096, -1996559, 11774},
		{way(2, 0, 1), 100, -319032, 31}, {way(2, 0, 1), 4095, 6924960, 1030}, {way(2, 0, 3), 4096, -9205056, 2054}, {way(2, 0, 8), 4095, -3824777, 4613}, {way(2, 0, 8), 4096, -2141321, 4614},
		{way(3, 0, 0), 100, -71500, 17}, {way(3, 0, 0), 4095, -342216, 517}, {way(3, 0, 0), 4096, 689976, 517},
	}
}

// P12.1, P12.2: vectors up to the longest one are pressed and loosened as another program does it.
func TestLongOnes(t *testing.T) {
	for _, x := range longOnes() {
		v := many(x.of)
		s, e := press.Press(x.h, v, 12345, 3, 4)
		loose, f := press.Loosen(s)
		if e != api.OK || f != api.OK || s.Scheme != x.h.Scheme || s.Dim != x.of || len(loose) != x.of {
			t.Errorf("%v of %d: got %d numbers, %d, %d", x.h, x.of, len(loose), e, f)
		}
		sum := int64(0)
		for i, n := range loose {
			sum += n * int64(i+1)
		}
		if sum != x.sum || !press.Meets(x.h, v, s) {
			t.Errorf("%v of %d: got %d, not %d", x.h, x.of, sum, x.sum)
		}
		if n, e := press.Bytes(s); n != x.bytes || e != api.OK {
			t.Errorf("%v of %d: got %d bytes, %d, not %d", x.h, x.of, n, e, x.bytes)
		}
		if left, e := press.Left(v, s); e != api.OK || !slices.Equal(plus(loose, left), v) {
			t.Errorf("%v of %d: something is lost, %d", x.h, x.of, e)
		}
	}
}

// plus is two vectors added, going around.
func plus(a, b []int64) []int64 {
	sum := slices.Clone(a)
	for i, n := range b {
		sum[i] += n
	}
	return sum
}
