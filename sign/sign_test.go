package sign_test

import (
	"math"
	"slices"
	"testing"

	"thrum/api"
	"thrum/sign"
)

const (
	most = math.MaxInt64
	low  = math.MinInt64
)

// vector and signs are as they are written; many is so many numbers, that go up and down.
func vector(v ...int64) []int64 { return v }

func signs(l ...bool) []bool { return l }

func many(n int) []int64 {
	v := make([]int64, n)
	for i := range v {
		v[i] = int64(i*2654435761%1009 - 504)
	}
	return v
}

// same tells whether two vectors are; a list without elements is nil or empty.
func same(a, b api.Sent) bool {
	return a.Scheme == b.Scheme && a.Dim == b.Dim && a.Scale == b.Scale && a.Wide == b.Wide &&
		slices.Equal(a.L, b.L) && slices.Equal(a.V, b.V) && slices.Equal(a.Lev, b.Lev) && slices.Equal(a.Neg, b.Neg)
}

// pressed is a vector of signs.
func pressed(scale int64, neg ...bool) api.Sent {
	return api.Sent{Scheme: api.SignS, Dim: len(neg), Scale: scale, Neg: neg}
}

// examples are vectors, how great they are, and their signs, as another program works them out.
func examples() map[string]struct {
	v    []int64
	mean int64
	neg  []bool
} {
	type e = struct {
		v    []int64
		mean int64
		neg  []bool
	}
	return map[string]e{
		"the chapter's":          {vector(3, -5, 0), 2, signs(false, true, false)},
		"one":                    {vector(5), 5, signs(false)},
		"one below 0":            {vector(-5), 5, signs(true)},
		"0 alone":                {vector(0), 0, signs(false)},
		"zeros":                  {vector(0, 0, 0), 0, signs(false, false, false)},
		"down to 0":              {vector(0, -1), 0, signs(false, true)},
		"down to 0 of three":     {vector(-1, 0, 1), 0, signs(true, false, false)},
		"half is left":           {vector(7, -8), 7, signs(false, true)},
		"nothing is left":        {vector(1, -1, 1), 1, signs(false, true, false)},
		"one is left":            {vector(-1, -1, -1, -2), 1, signs(true, true, true, true)},
		"nearly one more":        {vector(9, -9, 9, -8), 8, signs(false, true, false, true)},
		"twelve":                 {many(12), 226, signs(true, false, false, false, false, false, false, false, true, true, true, true)},
		"the greatest":           {vector(most), most, signs(false)},
		"its opposite":           {vector(-most), most, signs(true)},
		"the greatest, and 0":    {vector(most, 0), 4611686018427387903, signs(false, false)},
		"its opposite, and 0s":   {vector(-most, 0, 0), 3074457345618258602, signs(true, false, false)},
		"as much as has a place": {vector(most/2, -(most / 2), 1), 3074457345618258602, signs(false, true, false)},
		"that of two, and 0s":    {vector(1<<62, 1<<62-1, 0, 0), 2305843009213693951, signs(false, false, false, false)},
	}
}

// P11.1: Mean, as another program works it out.
func TestMean(t *testing.T) {
	for name, x := range examples() {
		if got, e := sign.Mean(x.v...); got != x.mean || e != api.OK {
			t.Errorf("%s: got %d, %d, not %d", name, got, e, x.mean)
		}
	}
}

// P11.1: Mean of many, as another program works it out.
func TestMeanOfMany(t *testing.T) {
	for n, want := range map[int]int64{1: 504, 2: 469, 3: 434, 7: 294, 100: 250, 1000: 252, 4095: 252, 4096: 252} {
		if got, e := sign.Mean(many(n)...); got != want || e != api.OK {
			t.Errorf("%d: got %d, %d, not %d", n, got, e, want)
		}
	}
}

// P11.1: Press, of the same numbers.
func TestPress(t *testing.T) {
	for name, x := range examples() {
		want := pressed(x.mean, x.neg...)
		if got, e := sign.Press(x.v...); !same(got, want) || e != api.OK {
			t.Errorf("%s: got %v, %d, not %v", name, got, e, want)
		}
	}
}

// P11.1: the longest vector is pressed, with as many signs; 2045 of them are below 0.
func TestPressTheLongest(t *testing.T) {
	v := many(api.MaxDim)
	s, e := sign.Press(v...)
	if s.Scheme != api.SignS || s.Dim != api.MaxDim || s.Scale != 252 || len(s.Neg) != api.MaxDim || e != api.OK {
		t.Fatalf("got %d, %d, %d, %d signs, %d", s.Scheme, s.Dim, s.Scale, len(s.Neg), e)
	}
	below := 0
	for i, neg := range s.Neg {
		if neg {
			below++
		}
		if neg != (v[i] < 0) {
			t.Errorf("%d: got %t of %d", i, neg, v[i])
		}
	}
	if below != 2045 {
		t.Errorf("%d are below 0", below)
	}
}

// wrong are vectors that are not pressed: no numbers, too many, ones that go over, and which of it comes first.
func wrong() map[string]struct {
	v []int64
	e api.Errno
} {
	type x = struct {
		v []int64
		e api.Errno
	}
	long := append(vector(low, most, most), make([]int64, api.MaxDim-2)...)
	return map[string]x{
		"nil":                        {nil, api.ErrArg},
		"no numbers":                 {vector(), api.ErrArg},
		"the least":                  {vector(low), api.ErrOver},
		"the least behind others":    {vector(3, -5, low), api.ErrOver},
		"a sum that goes over":       {vector(most, 1), api.ErrOver},
		"sizes' sum that goes over":  {vector(most, -1), api.ErrOver},
		"one that is far over":       {vector(most, -most, most), api.ErrOver},
		"one that would come back":   {vector(-most, -1, most), api.ErrOver},
		"over by the last of them":   {append(vector(most), append(make([]int64, api.MaxDim-2), 1)...), api.ErrOver},
		"one too many":               {make([]int64, api.MaxDim+1), api.ErrLong},
		"far too many":               {make([]int64, 3*api.MaxDim), api.ErrLong},
		"too many, which go over":    {long, api.ErrLong},
		"too many, behind the least": {append(make([]int64, api.MaxDim), low), api.ErrLong},
	}
}

// P11.1: Mean's and Press' errors, beside which all is zero.
func TestErrors(t *testing.T) {
	for name, x := range wrong() {
		if got, e := sign.Mean(x.v...); got != 0 || e != x.e {
			t.Errorf("%s: Mean: got %d, %d, not %d", name, got, e, x.e)
		}
		if got, e := sign.Press(x.v...); !same(got, api.Sent{}) || e != x.e {
			t.Errorf("%s: Press: got %v, %d, not %d", name, got, e, x.e)
		}
	}
}

// P11.2: Loosen.
func TestLoosen(t *testing.T) {
	for name, x := range map[string]struct {
		s    api.Sent
		want []int64
	}{
		"the chapter's":      {pressed(2, false, true, false), vector(2, -2, 2)},
		"one":                {pressed(5, false), vector(5)},
		"one below 0":        {pressed(5, true), vector(-5)},
		"a scale of 0":       {pressed(0, true, false), vector(0, 0)},
		"the greatest scale": {pressed(most, true, false, true, true), vector(-most, most, -most, -most)},
		"empty lists":        {api.Sent{Scheme: api.SignS, Dim: 1, Scale: 3, L: []int{}, V: vector(), Lev: []uint64{}, Neg: signs(true)}, vector(-3)},
	} {
		if got, e := sign.Loosen(x.s); !slices.Equal(got, x.want) || e != api.OK {
			t.Errorf("%s: got %v, %d, not %v", name, got, e, x.want)
		}
	}
}

// P11.2: of the longest one.
func TestLoosenTheLongest(t *testing.T) {
	neg := make([]bool, api.MaxDim)
	neg[0], neg[api.MaxDim-1] = true, true
	v, e := sign.Loosen(pressed(9, neg...))
	if len(v) != api.MaxDim || e != api.OK {
		t.Fatalf("got %d numbers, %d", len(v), e)
	}
	for i, n := range v {
		if want := map[bool]int64{true: -9, false: 9}[i == 0 || i == api.MaxDim-1]; n != want {
			t.Errorf("%d: got %d, not %d", i, n, want)
		}
	}
}

// none are vectors of signs that may not be, or are none of signs, each wrong in one part alone.
func none() map[string]api.Sent {
	return map[string]api.Sent{
		"nothing":               {},
		"no signs":              pressed(2),
		"all numbers":           {Scheme: api.DenseS, Dim: 2, V: vector(1, -1)},
		"the greatest":          {Scheme: api.TopS, Dim: 2, L: []int{1}, V: vector(-5)},
		"levels":                {Scheme: api.LevelS, Dim: 2, Scale: 2, Wide: 1, Lev: []uint64{0, 1}, Neg: signs(false, true)},
		"signs as all numbers":  {Scheme: api.DenseS, Dim: 2, Scale: 2, Neg: signs(false, true)},
		"signs as levels":       {Scheme: api.LevelS, Dim: 2, Scale: 2, Neg: signs(false, true)},
		"a scheme too great":    {Scheme: api.SignS + 1, Dim: 2, Scale: 2, Neg: signs(false, true)},
		"a scheme below 0":      {Scheme: -1, Dim: 2, Scale: 2, Neg: signs(false, true)},
		"a scale below 0":       pressed(-1, false, true),
		"the least scale":       pressed(low, false, true),
		"fewer signs":           {Scheme: api.SignS, Dim: 3, Scale: 2, Neg: signs(false, true)},
		"more signs":            {Scheme: api.SignS, Dim: 1, Scale: 2, Neg: signs(false, true)},
		"signs of no dimension": {Scheme: api.SignS, Scale: 2, Neg: signs(false)},
		"a dimension below 0":   {Scheme: api.SignS, Dim: -1, Scale: 2, Neg: signs(false)},
		"the least dimension":   {Scheme: api.SignS, Dim: math.MinInt, Scale: 2},
		"the greatest one":      {Scheme: api.SignS, Dim: math.MaxInt, Scale: 2, Neg: signs(false, true)},
		"one too long":          pressed(0, make([]bool, api.MaxDim+1)...),
		"a width":               {Scheme: api.SignS, Dim: 2, Scale: 2, Wide: 1, Neg: signs(false, true)},
		"a width below 0":       {Scheme: api.SignS, Dim: 2, Scale: 2, Wide: -1, Neg: signs(false, true)},
		"a level":               {Scheme: api.SignS, Dim: 2, Scale: 2, Lev: []uint64{0}, Neg: signs(false, true)},
		"levels beside signs":   {Scheme: api.SignS, Dim: 2, Scale: 2, Lev: []uint64{0, 0}, Neg: signs(false, true)},
		"a place":               {Scheme: api.SignS, Dim: 2, Scale: 2, L: []int{0}, Neg: signs(false, true)},
		"a number":              {Scheme: api.SignS, Dim: 2, Scale: 2, V: vector(0), Neg: signs(false, true)},
		"numbers":               {Scheme: api.SignS, Dim: 2, Scale: 2, V: vector(2, -2), Neg: signs(false, true)},
	}
}

// P11.2: Loosen's error; and such a one no vector is pressed to.
func TestWhatMayNotBe(t *testing.T) {
	for name, s := range none() {
		if v, e := sign.Loosen(s); len(v) != 0 || e != api.ErrArg {
			t.Errorf("%s: got %v, %d", name, v, e)
		}
		for _, v := range [][]int64{nil, vector(2), vector(2, -2), vector(1, -3), vector(2, -2, 2), make([]int64, api.MaxDim+1)} {
			if sign.Is(v, s) {
				t.Errorf("%s: %d numbers are", name, len(v))
			}
		}
	}
}

// P11.2: Is of what is pressed, as another program works it out, and of what is not: in each part.
func TestIs(t *testing.T) {
	for name, x := range examples() {
		s := pressed(x.mean, x.neg...)
		if !sign.Is(x.v, s) {
			t.Errorf("%s: it is", name)
		}
		for i := range x.neg {
			s.Neg[i] = !s.Neg[i]
			if sign.Is(x.v, s) {
				t.Errorf("%s: another sign at %d", name, i)
			}
			s.Neg[i] = !s.Neg[i]
		}
		for part, other := range map[string]api.Sent{
			"a scale more":         {Scheme: api.SignS, Dim: s.Dim, Scale: s.Scale + 1, Neg: s.Neg},
			"a scale less":         {Scheme: api.SignS, Dim: s.Dim, Scale: s.Scale - 1, Neg: s.Neg},
			"its opposite":         {Scheme: api.SignS, Dim: s.Dim, Scale: -max(s.Scale, 1), Neg: s.Neg},
			"another scheme":       {Scheme: api.LevelS, Dim: s.Dim, Scale: s.Scale, Neg: s.Neg},
			"no scheme":            {Dim: s.Dim, Scale: s.Scale, Neg: s.Neg},
			"a dimension more":     {Scheme: api.SignS, Dim: s.Dim + 1, Scale: s.Scale, Neg: s.Neg},
			"a dimension less":     {Scheme: api.SignS, Dim: s.Dim - 1, Scale: s.Scale, Neg: s.Neg},
			"a sign more":          pressed(s.Scale, append(slices.Clone(s.Neg), false)...),
			"a sign less":          pressed(s.Scale, s.Neg[1:]...),
			"a width":              {Scheme: api.SignS, Dim: s.Dim, Scale: s.Scale, Wide: 1, Neg: s.Neg},
			"places":               {Scheme: api.SignS, Dim: s.Dim, Scale: s.Scale, L: []int{0}, Neg: s.Neg},
			"numbers":              {Scheme: api.SignS, Dim: s.Dim, Scale: s.Scale, V: x.v, Neg: s.Neg},
			"levels":               {Scheme: api.SignS, Dim: s.Dim, Scale: s.Scale, Lev: make([]uint64, s.Dim), Neg: s.Neg},
			"no signs":             {Scheme: api.SignS, Dim: s.Dim, Scale: s.Scale},
			"nothing but a scheme": {Scheme: api.SignS},
		} {
			if sign.Is(x.v, other) {
				t.Errorf("%s: %s", name, part)
			}
		}
	}
}

// P11.2: a vector that is not pressed is pressed to nothing.
func TestIsOfErrors(t *testing.T) {
	for name, x := range wrong() {
		for _, s := range []api.Sent{{}, {Scheme: api.SignS}, pressed(0, make([]bool, len(x.v))...), pressed(most, make([]bool, max(1, len(x.v)))...), pressed(2, false)} {
			if sign.Is(x.v, s) {
				t.Errorf("%s: %d signs", name, len(s.Neg))
			}
		}
	}
}

// P11.2: empty lists are none, and what is told of a long one hangs on its last sign.
func TestIsOfLists(t *testing.T) {
	s := api.Sent{Scheme: api.SignS, Dim: 1, Scale: 3, L: []int{}, V: vector(), Lev: []uint64{}, Neg: signs(true)}
	if !sign.Is(vector(-3), s) {
		t.Error("it is")
	}
	s, _ = sign.Press(many(api.MaxDim)...)
	if !sign.Is(many(api.MaxDim), s) {
		t.Error("the longest is")
	}
	s.Neg[api.MaxDim-1] = !s.Neg[api.MaxDim-1]
	if sign.Is(many(api.MaxDim), s) {
		t.Error("another sign at the end")
	}
}
