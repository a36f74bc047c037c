package topk_test

import (
	"math"
	"slices"
	"testing"

	"thrum/api"
	"thrum/topk"
)

// same tells whether two vectors are; a list without elements is nil or empty.
func same(a, b api.Sent) bool {
	return a.Scheme == b.Scheme && a.Dim == b.Dim && a.Scale == b.Scale && a.Wide == b.Wide &&
		slices.Equal(a.L, b.L) && slices.Equal(a.V, b.V) && slices.Equal(a.Lev, b.Lev) && slices.Equal(a.Neg, b.Neg)
}

// top is a vector of which these numbers are left, at places.
func top(dim int, l []int, v ...int64) api.Sent {
	return api.Sent{Scheme: api.TopS, Dim: dim, L: l, V: v}
}

// P9.2: Press.
func TestPress(t *testing.T) {
	for _, x := range []struct {
		k    int
		v    []int64
		want api.Sent
	}{
		{2, vector(3, -5, 5, 1), top(4, list(1, 2), -5, 5)},
		{1, vector(3, -5), top(2, list(1), -5)},
		{0, vector(3, -5, 5, 1), top(4, nil)},
		{4, vector(3, -5, 5, 1), top(4, list(0, 1, 2, 3), 3, -5, 5, 1)},
		{3, vector(1, -2, 3, -4, 5), top(5, list(2, 3, 4), 3, -4, 5)},
		{0, vector(0), top(1, nil)},
		{1, vector(0), top(1, list(0), 0)},
		{2, vector(0, 0, 0), top(3, list(0, 1), 0, 0)},
		{2, vector(most, 0, low), top(3, list(0, 2), most, low)},
		{1, vector(most, 0, low), top(3, list(2), low)},
		{4, many(60), top(60, list(0, 29, 43, 58), -504, 493, -487, 481)},
	} {
		if got, e := topk.Press(x.k, x.v...); !same(got, x.want) || e != api.OK {
			t.Errorf("%d of %v: got %v, %d, not %v", x.k, x.v, got, e, x.want)
		}
		if !topk.Is(x.k, x.v, x.want) {
			t.Errorf("%d of %v: it is not", x.k, x.v)
		}
	}
}

// P9.2: Press's errors, in their order.
func TestPressErrors(t *testing.T) {
	for _, x := range []struct {
		call string
		k    int
		v    []int64
		want api.Errno
	}{
		{"none of none", 0, nil, api.ErrArg},
		{"1 of none", 1, vector(), api.ErrArg},
		{"fewer than none of none", -1, nil, api.ErrArg},
		{"fewer than none", -1, vector(3, -5), api.ErrArg},
		{"the fewest", math.MinInt, vector(3, -5), api.ErrArg},
		{"one more than there are", 3, vector(3, -5), api.ErrArg},
		{"the most", math.MaxInt, vector(3, -5), api.ErrArg},
		{"of one too many", 3, many(4097), api.ErrLong},
		{"fewer than none of too many", -1, many(4097), api.ErrLong},
		{"more of too many than there are", 4098, many(4097), api.ErrLong},
	} {
		if got, e := topk.Press(x.k, x.v...); !same(got, api.Sent{}) || e != x.want {
			t.Errorf("%s: got %v, %d", x.call, got, e)
		}
		for name, s := range map[string]api.Sent{"nothing": {}, "none": top(len(x.v), nil), "what two are": top(2, list(0, 1), 3, -5)} {
			if topk.Is(x.k, x.v, s) {
				t.Errorf("%s: it is %s", x.call, name)
			}
		}
	}
}

// P9.2: Is, where a part is another one.
func TestIsNot(t *testing.T) {
	v := vector(3, -5, 5, 1)
	for name, s := range map[string]api.Sent{
		"nothing":                   {},
		"another scheme":            {Scheme: api.DenseS, Dim: 4, L: list(1, 2), V: vector(-5, 5)},
		"a scheme that is none":     {Scheme: 9, Dim: 4, L: list(1, 2), V: vector(-5, 5)},
		"a dimension too small":     top(3, list(1, 2), -5, 5),
		"a dimension too great":     top(5, list(1, 2), -5, 5),
		"another place":             top(4, list(0, 2), -5, 5),
		"another place, its number": top(4, list(0, 2), 3, 5),
		"places that fall":          top(4, list(2, 1), 5, -5),
		"a place too few":           top(4, list(1), -5, 5),
		"a place too many":          top(4, list(1, 2, 3), -5, 5),
		"a number too few":          top(4, list(1, 2), -5),
		"a number too many":         top(4, list(1, 2), -5, 5, 1),
		"another number":            top(4, list(1, 2), -5, 6),
		"a number turned":           top(4, list(1, 2), 5, 5),
		"one less":                  top(4, list(1), -5),
		"one more":                  top(4, list(0, 1, 2), 3, -5, 5),
		"none":                      top(4, nil),
		"a scale":                   {Scheme: api.TopS, Dim: 4, L: list(1, 2), V: vector(-5, 5), Scale: 1},
		"a width":                   {Scheme: api.TopS, Dim: 4, L: list(1, 2), V: vector(-5, 5), Wide: 1},
		"a level":                   {Scheme: api.TopS, Dim: 4, L: list(1, 2), V: vector(-5, 5), Lev: []uint64{0}},
		"a sign":                    {Scheme: api.TopS, Dim: 4, L: list(1, 2), V: vector(-5, 5), Neg: []bool{false}},
	} {
		if topk.Is(2, v, s) {
			t.Errorf("%s: it is", name)
		}
	}
	s := top(4, list(1, 2), -5, 5)
	if !topk.Is(2, v, s) {
		t.Error("it is not")
	}
	for _, k := range list(-1, 0, 1, 3, 4, 5) {
		if topk.Is(k, v, s) {
			t.Errorf("%d: it is", k)
		}
	}
	for _, other := range [][]int64{nil, v[:3], {3, -5, 5, 1, 0}, {6, -5, 5, 1}, {3, -5, 6, 1}, {3, 5, 5, 1}, {-5, -5, 5, 1}} {
		if topk.Is(2, other, s) {
			t.Errorf("%v: it is", other)
		}
	}
	if !topk.Is(2, vector(4, -5, 5, -5), s) {
		t.Error("of other numbers: it is not")
	}
}

// P9.2, R3: a list without elements is nil or empty.
func TestIsWithEmptyLists(t *testing.T) {
	s := top(4, list(1, 2), -5, 5)
	s.Lev, s.Neg = []uint64{}, []bool{}
	if !topk.Is(2, vector(3, -5, 5, 1), s) {
		t.Error("empty: it is not")
	}
	for _, none := range []api.Sent{top(4, nil), top(4, list()), {Scheme: api.TopS, Dim: 4, L: []int{}, V: []int64{}}} {
		if !topk.Is(0, vector(3, -5, 5, 1), none) {
			t.Errorf("%v: it is not", none)
		}
	}
}

// P9.2: Least.
func TestLeast(t *testing.T) {
	v := vector(3, -5, 5, 1, 0, low, most)
	for _, x := range []struct {
		l    []int
		v    []int64
		want uint64
		is   bool
	}{
		{nil, v, 0, false},
		{list(0), v, 3, true},
		{list(1), v, 5, true},
		{list(0, 1), v, 3, true},
		{list(1, 0), v, 3, true},
		{list(1, 2), v, 5, true},
		{list(0, 1, 2, 3), v, 1, true},
		{list(3, 2, 1, 0), v, 1, true},
		{list(4), v, 0, true},
		{list(4, 0), v, 0, true},
		{list(0, 4), v, 0, true},
		{list(5), v, 1 << 63, true},
		{list(6), v, most, true},
		{list(5, 6), v, most, true},
		{list(6, 5), v, most, true},
		{list(5, 5, 1, 1, 2, 2), v, 5, true},
		{list(5, 1), v, 5, true},
		{list(0, 5, 2, 9), v, 3, true},
		{list(7), v, 0, false},
		{list(-1), v, 0, false},
		{list(-1, 7, 8, math.MinInt, math.MaxInt), v, 0, false},
		{list(-1, 1, 7), v, 5, true},
		{list(7, -1, 1), v, 5, true},
		{list(0), nil, 0, false},
		{nil, nil, 0, false},
		{list(0, 1), vector(low, low), 1 << 63, true},
		// As many as no vector has: the words name no bound here.
		{list(0, 4999), slices.Repeat(vector(9, -7), 2500), 7, true},
	} {
		if got, is := topk.Least(x.l, x.v); got != x.want || is != x.is {
			t.Errorf("%v of %v: got %d, %t, not %d, %t", x.l, x.v[:min(len(x.v), 9)], got, is, x.want, x.is)
		}
	}
}
