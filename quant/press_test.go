package quant_test

import (
	"math"
	"slices"
	"testing"

	"thrum/api"
	"thrum/quant"
)

// same tells whether two vectors are; a list without elements is nil or empty.
func same(a, b api.Sent) bool {
	return a.Scheme == b.Scheme && a.Dim == b.Dim && a.Scale == b.Scale && a.Wide == b.Wide &&
		slices.Equal(a.L, b.L) && slices.Equal(a.V, b.V) && slices.Equal(a.Lev, b.Lev) && slices.Equal(a.Neg, b.Neg)
}

// list, vector and levels are as they are written; many is so many numbers, that go up and down.
func list(n ...int) []int { return n }

func vector(v ...int64) []int64 { return v }

func levels(l ...uint64) []uint64 { return l }

func many(n int) []int64 {
	v := make([]int64, n)
	for i := range v {
		v[i] = int64(i)*2654435761%1009 - 504
	}
	return v
}

// below is which ones of many places are below 0.
func below(many int, l ...int) []bool {
	neg := make([]bool, many)
	for _, at := range l {
		neg[at] = true
	}
	return neg
}

// pressed is a vector in levels.
func pressed(scale int64, wide int, lev []uint64, neg []bool) api.Sent {
	return api.Sent{Scheme: api.LevelS, Dim: len(lev), Scale: scale, Wide: wide, Lev: lev, Neg: neg}
}

// drawn is a vector, what it is pressed to for a seed and numbers, and what that is loosened to, as another program works it out.
type drawn struct {
	v     []int64
	seed  uint64
	n     []int
	want  api.Sent
	loose []int64
}

// mixed is a few numbers, whose sizes' levels have all kinds of rests.
func mixed() []int64 { return vector(10, -7, 0, 3, -10) }

func allDrawn() []drawn {
	few, long := below(5, 1, 4), below(24, 0, 8, 9, 10, 11, 12, 13, 14, 22, 23)
	great := vector(most, most-1, most/2, -(most / 3), 1, -1, 1<<62, -(1 << 62), 1<<40)
	return []drawn{
		{vector(0), 5, nil, pressed(0, 1, levels(0), below(1)), vector(0)},
		{vector(0, 0, 0), 5, list(1, 2), pressed(0, 8, levels(0, 0, 0), below(3)), vector(0, 0, 0)},
		{vector(-1), 9, nil, pressed(1, 3, levels(7), below(1, 0)), vector(-1)},
		{vector(most), 1, nil, pressed(most, 8, levels(255), below(1)), vector(most)},
		{vector(-most, most, 0), 1, nil, pressed(most, 8, levels(255, 255, 0), below(3, 0)), vector(-most, most, 0)},
		{mixed(), 0, nil, pressed(10, 2, levels(3, 2, 0, 1, 3), few), vector(10, -6, 0, 3, -10)},
		{mixed(), 7, list(4, 9), pressed(10, 1, levels(1, 1, 0, 1, 1), few), vector(10, -10, 0, 10, -10)},
		{mixed(), 7, list(4, 9), pressed(10, 8, levels(255, 178, 0, 77, 255), few), vector(10, -6, 0, 3, -10)},
		{many(24), 3, list(63, 1<<30),
			pressed(504, 1, levels(1, 1, 1, 0, 0, 0, 1, 0, 0, 0, 1, 0, 0, 0, 1, 1, 1, 1, 1, 1, 0, 0, 0, 0), long),
			vector(-504, 504, 504, 0, 0, 0, 504, 0, 0, 0, -504, 0, 0, 0, -504, 504, 504, 504, 504, 504, 0, 0, 0, 0)},
		{many(24), 3, list(63, 1<<30),
			pressed(504, 5, levels(31, 27, 22, 18, 14, 9, 6, 1, 4, 8, 12, 16, 20, 25, 29, 28, 24, 20, 16, 12, 7, 3, 1, 6), long),
			vector(-504, 438, 357, 292, 227, 146, 97, 16, -65, -130, -195, -260, -325, -406, -471, 455, 390, 325, 260, 195, 113, 48, -16, -97)},
		{many(24), 3, list(63, 1<<30),
			pressed(504, 8, levels(255, 220, 185, 149, 114, 78, 43, 8, 28, 63, 99, 134, 169, 205, 240, 235, 199, 164, 129, 93, 58, 23, 13, 48), long),
			vector(-504, 434, 365, 294, 225, 154, 84, 15, -55, -124, -195, -264, -334, -405, -474, 464, 393, 324, 254, 183, 114, 45, -25, -94)},
		{many(24), math.MaxUint64, list(-1, math.MinInt),
			pressed(504, 8, levels(255, 220, 185, 149, 113, 79, 43, 8, 27, 63, 99, 134, 170, 205, 241, 235, 199, 164, 128, 93, 58, 22, 13, 48), long),
			vector(-504, 434, 365, 294, 223, 156, 84, 15, -53, -124, -195, -264, -336, -405, -476, 464, 393, 324, 252, 183, 114, 43, -25, -94)},
		{great, 11, list(2),
			pressed(most, 8, levels(255, 255, 127, 85, 0, 0, 128, 128, 0), below(9, 3, 5, 7)),
			vector(most, most, 4593600975217868735, -3074457345618258602, 0, 0, 4629771061636907071, -4629771061636907071, 0)},
		{great, 12, nil,
			pressed(most, 1, levels(1, 1, 1, 1, 0, 0, 1, 0, 0), below(9, 3, 5, 7)),
			vector(most, most, most, -most, 0, 0, most, 0, 0)},
	}
}

// P10.2, P10.3: Press, Loosen and Near.
func TestPressed(t *testing.T) {
	for _, x := range allDrawn() {
		if got, e := quant.Press(x.v, x.want.Wide, x.seed, x.n...); !same(got, x.want) || e != api.OK {
			t.Errorf("Press(%v, %d, %d, %v): got %v, %d, not %v", x.v, x.want.Wide, x.seed, x.n, got, e, x.want)
		}
		if got, e := quant.Loosen(x.want); !slices.Equal(got, x.loose) || e != api.OK {
			t.Errorf("Loosen(%v): got %v, %d, not %v", x.want, got, e, x.loose)
		}
		if !quant.Near(x.v, x.want) {
			t.Errorf("Near(%v, %v): no", x.v, x.want)
		}
	}
}

// P10.2, P10.3: of as many numbers as there may be.
func TestOfTheMost(t *testing.T) {
	v := many(4096)
	for _, x := range []struct {
		wide          int
		levels, loose int64
	}{{1, 4259361, -44964360}, {4, 63110978, -3418548}, {8, 1071586257, -1999888}} {
		s, e := quant.Press(v, x.wide, 99, 1, 2)
		if e != api.OK || s.Dim != 4096 || len(s.Lev) != 4096 || len(s.Neg) != 4096 || !quant.Near(v, s) {
			t.Fatalf("%d: got %d, %d", x.wide, s.Dim, e)
		}
		loose, e := quant.Loosen(s)
		if e != api.OK || len(loose) != 4096 {
			t.Fatalf("%d: loosened %d, %d", x.wide, len(loose), e)
		}
		lev, sum := int64(0), int64(0)
		for i := range loose {
			lev += int64(i+1) * int64(s.Lev[i])
			sum += int64(i+1) * loose[i]
		}
		if lev != x.levels || sum != x.loose {
			t.Errorf("%d: got %d, %d", x.wide, lev, sum)
		}
	}
}

// P10.2: Press's errors, in their order.
func TestPressErrors(t *testing.T) {
	tooMany := many(4097)
	tooMany[0] = low
	for _, x := range []struct {
		call string
		v    []int64
		wide int
		want api.Errno
	}{
		{"no width", mixed(), 0, api.ErrArg},
		{"a width below 0", mixed(), -1, api.ErrArg},
		{"the least width", mixed(), math.MinInt, api.ErrArg},
		{"a width too great", mixed(), 9, api.ErrArg},
		{"the greatest width", mixed(), math.MaxInt, api.ErrArg},
		{"no width, of zeros", vector(0, 0), 0, api.ErrArg},
		{"no numbers", nil, 2, api.ErrArg},
		{"no numbers, an empty list", vector(), 2, api.ErrArg},
		{"no numbers, and no width", nil, 0, api.ErrArg},
		{"one too many", many(4097), 2, api.ErrLong},
		{"far too many", many(9000), 2, api.ErrLong},
		{"one too many, one without a size", tooMany, 2, api.ErrLong},
		{"one too many, and no width", tooMany, 0, api.ErrArg},
		{"one too many, and a width too great", tooMany, 9, api.ErrArg},
		{"one without a size", vector(low), 2, api.ErrOver},
		{"one without a size, behind others", vector(3, most, low), 8, api.ErrOver},
		{"one without a size, and a width too great", vector(low), 9, api.ErrArg},
	} {
		if got, e := quant.Press(x.v, x.wide, 3, 4); !same(got, api.Sent{}) || e != x.want {
			t.Errorf("%s: got %v, %d", x.call, got, e)
		}
	}
}

// notInLevels are vectors that may not be, or are of another scheme: each is one in levels but for one thing.
func notInLevels() map[string]api.Sent {
	neg := below(5, 1, 4)
	with := func(change func(s *api.Sent)) api.Sent {
		s := pressed(10, 2, levels(3, 2, 0, 1, 3), slices.Clone(neg))
		change(&s)
		return s
	}
	return map[string]api.Sent{
		"nothing":                   {},
		"all numbers":               {Scheme: api.DenseS, Dim: 5, V: mixed()},
		"the greatest numbers":      {Scheme: api.TopS, Dim: 5, L: list(0), V: vector(10)},
		"signs":                     {Scheme: api.SignS, Dim: 5, Scale: 10, Neg: neg},
		"another scheme":            with(func(s *api.Sent) { s.Scheme = api.SignS }),
		"a scheme that is none":     with(func(s *api.Sent) { s.Scheme = 4 }),
		"a scheme below 0":          with(func(s *api.Sent) { s.Scheme = -api.LevelS }),
		"a dimension too small":     with(func(s *api.Sent) { s.Dim = 4 }),
		"a dimension too great":     with(func(s *api.Sent) { s.Dim = 6 }),
		"a dimension below 0":       with(func(s *api.Sent) { s.Dim = -5 }),
		"the greatest dimension":    with(func(s *api.Sent) { s.Dim = math.MaxInt }),
		"no dimension":              with(func(s *api.Sent) { s.Dim, s.Lev, s.Neg = 0, nil, nil }),
		"too many":                  pressed(10, 2, make([]uint64, 4097), make([]bool, 4097)),
		"a place":                   with(func(s *api.Sent) { s.L = list(0) }),
		"a number":                  with(func(s *api.Sent) { s.V = vector(0) }),
		"a scale below 0":           with(func(s *api.Sent) { s.Scale = -1 }),
		"a scale that is turned":    with(func(s *api.Sent) { s.Scale = -10 }),
		"the least scale":           with(func(s *api.Sent) { s.Scale = low }),
		"no width":                  with(func(s *api.Sent) { s.Wide = 0 }),
		"no width, of zeros":        pressed(0, 0, levels(0, 0), below(2)),
		"a width below 0":           with(func(s *api.Sent) { s.Wide = -2 }),
		"a width too small":         with(func(s *api.Sent) { s.Wide = 1 }),
		"a width too great":         with(func(s *api.Sent) { s.Wide = 9 }),
		"the greatest width":        with(func(s *api.Sent) { s.Wide = math.MaxInt }),
		"a level too few":           with(func(s *api.Sent) { s.Lev = s.Lev[:4] }),
		"a level too many":          with(func(s *api.Sent) { s.Lev = append(s.Lev, 0) }),
		"no levels":                 with(func(s *api.Sent) { s.Lev = nil }),
		"a level above the top":     with(func(s *api.Sent) { s.Lev[0] = 4 }),
		"the last level above it":   with(func(s *api.Sent) { s.Lev[4] = 4 }),
		"the greatest level":        with(func(s *api.Sent) { s.Lev[2] = math.MaxUint64 }),
		"a level above the last":    pressed(10, 8, levels(255, 256), below(2)),
		"a level above that of 0":   pressed(0, 1, levels(0, 2), below(2)),
		"a sign too few":            with(func(s *api.Sent) { s.Neg = s.Neg[:4] }),
		"a sign too many":           with(func(s *api.Sent) { s.Neg = append(s.Neg, false) }),
		"no signs":                  with(func(s *api.Sent) { s.Neg = nil }),
		"neither levels, nor signs": with(func(s *api.Sent) { s.Lev, s.Neg = nil, nil }),
	}
}

// P10.3: Loosen's error; what may not be is near nothing.
func TestWhatMayNotBe(t *testing.T) {
	long := make([]int64, 4097)
	long[0] = 10
	for name, s := range notInLevels() {
		if got, e := quant.Loosen(s); len(got) != 0 || e != api.ErrArg {
			t.Errorf("%s: got %v, %d", name, got, e)
		}
		for _, v := range [][]int64{mixed(), nil, vector(0, 0), vector(10, 10), vector(0), mixed()[:4], append(mixed(), 0), long, make([]int64, 4097)} {
			if quant.Near(v, s) {
				t.Errorf("%s: near %v", name, v[:min(len(v), 9)])
			}
		}
	}
}

// P10.3: Loosen, of a vector that may be, whether or not one is pressed so.
func TestLoosen(t *testing.T) {
	for _, x := range []struct {
		s    api.Sent
		want []int64
	}{
		{pressed(10, 2, levels(0, 1, 2, 3), below(4)), vector(0, 3, 6, 10)},
		{pressed(10, 2, levels(0, 1, 2, 3), below(4, 0, 1, 2, 3)), vector(0, -3, -6, -10)},
		{pressed(10, 2, levels(1, 1, 2, 0), below(4, 1)), vector(3, -3, 6, 0)},
		{pressed(0, 1, levels(1, 1), below(2, 1)), vector(0, 0)},
		{pressed(0, 8, levels(255, 0), below(2, 0)), vector(0, 0)},
		{pressed(most, 8, levels(255, 255, 254, 1), below(4, 1, 3)), vector(most, -most, 9187201950435737470, -36170086419038336)},
		{pressed(1, 8, levels(254, 254, 255, 255), below(4, 1, 3)), vector(0, 0, 1, -1)},
		{pressed(7, 1, levels(0), below(1, 0)), vector(0)},
	} {
		if got, e := quant.Loosen(x.s); !slices.Equal(got, x.want) || e != api.OK {
			t.Errorf("%v: got %v, %d, not %v", x.s, got, e, x.want)
		}
	}
}

// P10.3: Near, by each level at each place; 7 is between 2 and 3, and 3 between 0 and 1, as they have a rest; all else is itself.
func TestNearByLevel(t *testing.T) {
	good := [][]uint64{levels(3), levels(2, 3), levels(0), levels(0, 1), levels(3)}
	for at := range good {
		for level := range uint64(4) {
			lev := levels(3, 2, 0, 0, 3)
			lev[at] = level
			s := pressed(10, 2, lev, below(5, 1, 4))
			if got := quant.Near(mixed(), s); got != slices.Contains(good[at], level) {
				t.Errorf("level %d at %d: got %t", level, at, got)
			}
		}
	}
	for _, lev := range [][]uint64{levels(3, 2, 0, 0, 3), levels(3, 3, 0, 0, 3), levels(3, 2, 0, 1, 3), levels(3, 3, 0, 1, 3)} {
		if !quant.Near(mixed(), pressed(10, 2, lev, below(5, 1, 4))) {
			t.Errorf("%v: it is not", lev)
		}
	}
}

// P10.3: Near, where a part is another one, though it may be.
func TestNotNear(t *testing.T) {
	few := below(5, 1, 4)
	for name, s := range map[string]api.Sent{
		"one fewer":                pressed(10, 2, levels(3, 2, 0, 1), below(4, 1)),
		"one more":                 pressed(10, 2, levels(3, 2, 0, 1, 3, 0), below(6, 1, 4)),
		"a scale too small":        pressed(9, 2, levels(3, 2, 0, 1, 3), few),
		"a scale too great":        pressed(11, 2, levels(3, 2, 0, 1, 3), few),
		"no scale":                 pressed(0, 2, levels(3, 2, 0, 1, 3), few),
		"a width too great":        pressed(10, 3, levels(3, 2, 0, 1, 3), few),
		"below 0, and is not":      pressed(10, 2, levels(3, 2, 0, 1, 3), below(5, 0, 1, 4)),
		"not below 0, and is":      pressed(10, 2, levels(3, 2, 0, 1, 3), below(5, 4)),
		"the last one not below 0": pressed(10, 2, levels(3, 2, 0, 1, 3), below(5, 1)),
		"0 below 0":                pressed(10, 2, levels(3, 2, 0, 1, 3), below(5, 1, 2, 4)),
		"all signs turned":         pressed(10, 2, levels(3, 2, 0, 1, 3), below(5, 0, 2, 3)),
		"all zeros":                pressed(0, 2, levels(0, 0, 0, 0, 0), below(5)),
	} {
		if quant.Near(mixed(), s) {
			t.Errorf("%s: it is", name)
		}
	}
	if !quant.Near(mixed(), pressed(10, 2, levels(3, 2, 0, 1, 3), few)) {
		t.Error("it is not")
	}
}

// P10.3: Near, of other vectors.
func TestNearOfOtherVectors(t *testing.T) {
	s := pressed(10, 2, levels(3, 2, 0, 1, 3), below(5, 1, 4))
	for _, v := range [][]int64{
		nil, mixed()[:4], append(mixed(), 0), vector(10, 7, 0, 3, -10), vector(10, -7, -1, 3, -10), vector(10, -7, 1, 7, -10),
		vector(11, -7, 0, 3, -10), vector(9, -7, 0, 3, -9), vector(low, -7, 0, 3, -10), vector(10, -7, 0, 3, low), make([]int64, 5), many(4097),
	} {
		if quant.Near(v, s) {
			t.Errorf("%v: it is", v[:min(len(v), 9)])
		}
	}
	for _, v := range [][]int64{vector(10, -4, 0, 1, -10), vector(10, -9, 0, 6, -10), vector(10, -5, 0, 5, -7), vector(7, -5, 0, 5, -10)} {
		if !quant.Near(v, s) {
			t.Errorf("%v: it is not", v)
		}
	}
	zeros := pressed(0, 2, levels(0, 0), below(2))
	if !quant.Near(vector(0, 0), zeros) || quant.Near(vector(0, 1), zeros) || quant.Near(vector(0, 0), pressed(0, 2, levels(0, 1), below(2))) {
		t.Error("zeros")
	}
	// The least number's size is no scale, not even 0, nor what it goes around to.
	for _, scale := range vector(0, most) {
		if quant.Near(vector(low), pressed(scale, 1, levels(1), below(1, 0))) || quant.Near(vector(low), pressed(scale, 1, levels(0), below(1, 0))) {
			t.Errorf("%d: the least is near", scale)
		}
	}
}

// R3, P10.3: a list without elements is nil or empty.
func TestEmptyLists(t *testing.T) {
	s := pressed(10, 2, levels(3, 2, 0, 1, 3), below(5, 1, 4))
	s.L, s.V = []int{}, []int64{}
	if !quant.Near(mixed(), s) {
		t.Error("it is not")
	}
	if got, e := quant.Loosen(s); !slices.Equal(got, vector(10, -6, 0, 3, -10)) || e != api.OK {
		t.Errorf("got %v, %d", got, e)
	}
}
