package press_test

import (
	"slices"
	"testing"

	"thrum/api"
	"thrum/press"
)

// P12.3: Round of a vector, of nothing but what was left, and of both, is Press of the sum, and what is left of that.
func TestRound(t *testing.T) {
	for name, x := range examples() {
		zeros := make([]int64, len(x.v))
		half := make([]int64, len(x.v))
		for i, n := range x.v {
			half[i] = n/2 + 1
		}
		for part, l := range map[string][2][]int64{
			"nothing was left": {x.v, zeros},
			"all was left":     {zeros, x.v},
			"half was left":    {less(x.v, half), half},
			"more was left":    {half, less(x.v, half)},
		} {
			s, left, e := press.Round(x.h, l[0], l[1], x.seed, x.n...)
			if !same(s, x.s) || !slices.Equal(left, x.left) || e != api.OK {
				t.Errorf("%s: %s: got %v, %v, %d, not %v, %v", name, part, s, left, e, x.s, x.left)
			}
		}
	}
}

// less is a vector less another one, going around.
func less(a, b []int64) []int64 {
	rest := slices.Clone(a)
	for i, n := range b {
		rest[i] -= n
	}
	return rest
}

// round is what is sent in a round, and what is left then.
type round struct {
	s    api.Sent
	left []int64
}

// rounds are those of each way, drawn for seed 77, 5 and the round, as another program works them out.
func rounds() map[api.How][]round {
	return map[api.How][]round{
		way(0, 0, 0): {
			{dense(-504, 435, 365, 295, 225, 155), vector(0, 0, 0, 0, 0, 0)},
			{dense(85, 15, -55, -125, -195, -265), vector(0, 0, 0, 0, 0, 0)},
			{dense(-335, -405, -475, 464, 394, 324), vector(0, 0, 0, 0, 0, 0)},
			{dense(254, 184, 114, 44, -26, -96), vector(0, 0, 0, 0, 0, 0)},
		},
		way(1, 2, 0): {
			{places(6, list(0, 1), -504, 435), vector(0, 0, 365, 295, 225, 155)},
			{places(6, list(2, 3), 310, 170), vector(85, 15, 0, 0, 30, -110)},
			{places(6, list(2, 3), -475, 464), vector(-250, -390, 0, 0, 424, 214)},
			{places(6, list(1, 4), -206, 398), vector(4, 0, 114, 44, 0, 118)},
		},
		way(2, 0, 2): {
			{levels(504, 2, "-+++++", 3, 2, 2, 2, 2, 1), vector(0, 99, 29, -41, -111, -13)},
			{levels(306, 2, "++----", 1, 1, 0, 2, 3, 3), vector(-17, 12, -26, 38, 0, 28)},
			{levels(502, 2, "---+++", 2, 2, 3, 3, 3, 2), vector(-18, -59, 1, 0, -108, 18)},
			{levels(236, 2, "++++--", 3, 2, 1, 1, 2, 1), vector(0, -32, 37, -34, 23, 0)},
		},
		way(3, 0, 0): {
			{signs(329, "-+++++"), vector(-175, 106, 36, -34, -104, -174)},
			{signs(187, "-+----"), vector(97, -66, 168, 28, -112, -252)},
			{signs(310, "---+++"), vector(72, -161, 3, 182, -28, -238)},
			{signs(180, "++++--"), vector(146, -157, -63, 46, 126, -154)},
		},
	}
}

// P12.3: round by round, as another program works them out.
func TestRoundByRound(t *testing.T) {
	for h, l := range rounds() {
		left := make([]int64, 6)
		for i, want := range l {
			s, rest, e := press.Round(h, many(24)[6*i:6*i+6], left, 77, 5, i)
			if !same(s, want.s) || !slices.Equal(rest, want.left) || e != api.OK {
				t.Errorf("%v: %d: got %v, %v, %d, not %v", h, i, s, rest, e, want)
			}
			left = rest
		}
	}
}

// P12.3: Round's errors, in their order, beside which all is zero.
func TestRoundErrors(t *testing.T) {
	tooLong := make([]int64, api.MaxDim+1)
	for name, x := range map[string]struct {
		h       api.How
		g, left []int64
		e       api.Errno
	}{
		"too many":                    {way(0, 0, 0), tooLong, tooLong, api.ErrLong},
		"too many, of no way":         {way(9, 9, 9), tooLong, tooLong, api.ErrLong},
		"too many alone":              {way(0, 0, 0), tooLong, vector(1), api.ErrLong},
		"too many were left":          {way(1, 1, 0), vector(1), tooLong, api.ErrLong},
		"fewer":                       {way(0, 0, 0), vector(1), vector(1, 2), api.ErrShape},
		"more":                        {way(3, 0, 0), vector(1, 2, 3), vector(1, 2), api.ErrShape},
		"none, and one":               {way(2, 0, 1), nil, vector(1), api.ErrShape},
		"one, and none":               {way(2, 0, 1), vector(1), nil, api.ErrShape},
		"fewer, of no way":            {way(9, 9, 9), vector(1), vector(1, 2), api.ErrShape},
		"fewer, which go over":        {way(0, 0, 0), vector(most), vector(1, 2), api.ErrShape},
		"a sum over":                  {way(0, 0, 0), vector(0, most), vector(0, 1), api.ErrOver},
		"a sum over, below":           {way(1, 1, 0), vector(low, 0), vector(-1, 0), api.ErrOver},
		"a sum over, of no way":       {way(9, 9, 9), vector(most), vector(1), api.ErrOver},
		"a sum over, of no width":     {way(2, 0, 0), vector(most), vector(most), api.ErrOver},
		"nothing":                     {way(0, 0, 0), nil, nil, api.ErrArg},
		"nothing, of no places":       {way(1, 0, 0), vector(), vector(), api.ErrArg},
		"more places than numbers":    {way(1, 3, 0), vector(1, 2), vector(3, 4), api.ErrArg},
		"no scheme":                   {way(4, 0, 0), vector(1, 2), vector(3, 4), api.ErrArg},
		"no width, of the least":      {way(2, 0, 0), vector(low), vector(0), api.ErrArg},
		"the least in levels":         {way(2, 0, 8), vector(low+1, 3), vector(-1, 3), api.ErrOver},
		"the least's sign":            {way(3, 0, 0), vector(3, 0), vector(3, low), api.ErrOver},
		"signs of more than one has":  {way(3, 0, 0), vector(most-1, 3), vector(1, -4), api.ErrOver},
		"of a width, signs over":      {way(3, 0, 2), vector(most-1, 3), vector(1, -4), api.ErrArg},
		"all too long, one goes over": {way(3, 0, 0), append(vector(most), tooLong...), append(vector(1), tooLong...), api.ErrLong},
	} {
		if s, left, e := press.Round(x.h, x.g, x.left, 1, 2, 3); !same(s, api.Sent{}) || len(left) != 0 || e != x.e {
			t.Errorf("%s: got %v, %v, %d, not %d", name, s, left, e, x.e)
		}
	}
}

// P12.3: numbers at the edges that add up to ones with a place are pressed.
func TestRoundAtTheEdges(t *testing.T) {
	for name, x := range map[string]struct {
		h       api.How
		g, left []int64
		s       api.Sent
		rest    []int64
	}{
		"to the greatest":       {way(0, 0, 0), vector(most-1, low), vector(1, most), dense(most, -1), vector(0, 0)},
		"to the least":          {way(1, 1, 0), vector(low+1, most), vector(-1, 0), places(2, list(0), low), vector(0, most)},
		"the least is left":     {way(1, 0, 0), vector(low, low), vector(0, 0), places(2, list()), vector(low, low)},
		"the greatest in bits":  {way(2, 0, 1), vector(-most+5, most), vector(-5, 0), levels(most, 1, "-+", 1, 1), vector(0, 0)},
		"the greatest is a sum": {way(3, 0, 0), vector(most-3, -2), vector(1, 0), signs(most/2, "+-"), vector(most/2-1, most/2-2)},
	} {
		s, rest, e := press.Round(x.h, x.g, x.left, 1, 2, 3)
		if !same(s, x.s) || !slices.Equal(rest, x.rest) || e != api.OK {
			t.Errorf("%s: got %v, %v, %d, not %v, %v", name, s, rest, e, x.s, x.rest)
		}
	}
}
