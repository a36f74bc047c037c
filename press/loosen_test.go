package press_test

import (
	"math/big"
	"slices"
	"testing"

	"thrum/api"
	"thrum/frame"
	"thrum/press"
)

// P12.2: Loosen, Left and Bytes, as another program works them out.
func TestLoosen(t *testing.T) {
	for name, x := range examples() {
		if got, e := press.Loosen(x.s); !slices.Equal(got, x.loose) || e != api.OK {
			t.Errorf("%s: got %v, %d, not %v", name, got, e, x.loose)
		}
		if got, e := press.Left(x.v, x.s); !slices.Equal(got, x.left) || e != api.OK {
			t.Errorf("%s: left: got %v, %d, not %v", name, got, e, x.left)
		}
		if got, e := press.Bytes(x.s); got != x.bytes || e != api.OK {
			t.Errorf("%s: got %d bytes, %d, not %d", name, got, e, x.bytes)
		}
	}
}

// P12.2: of vectors that no vector need be pressed to.
func TestLoosenOthers(t *testing.T) {
	for name, x := range map[string]struct {
		s     api.Sent
		want  []int64
		bytes int
	}{
		"not the greatest":        {places(4, list(0, 3), 1, -1), vector(1, 0, 0, -1), 7},
		"zeros at places":         {places(3, list(1), 0), vector(0, 0, 0), 5},
		"the last place":          {places(4, list(3), low), vector(0, 0, 0, low), 14},
		"levels, none the top":    {levels(10, 2, "+-+", 1, 2, 0), vector(3, -6, 0), 6},
		"a level of 0 below 0":    {levels(10, 2, "--", 0, 3), vector(0, -10), 6},
		"levels of a scale of 0":  {levels(0, 8, "-+", 255, 7), vector(0, 0), 7},
		"signs of a scale of 0":   {signs(0, "-+"), vector(0, 0), 4},
		"the greatest scale":      {signs(most, "-+"), vector(-most, most), 12},
		"the greatest levels":     {levels(most, 1, "-+-", 1, 1, 0), vector(-most, most, 0), 14},
		"empty lists, of numbers": {api.Sent{Dim: 1, V: vector(-3), L: list(), Lev: []uint64{}, Neg: below("")}, vector(-3), 3},
		"empty lists, of places":  {api.Sent{Scheme: api.TopS, Dim: 2, L: list(), V: vector(), Lev: []uint64{}, Neg: below("")}, vector(0, 0), 3},
		"empty lists, of levels":  {api.Sent{Scheme: api.LevelS, Dim: 1, Scale: 3, Wide: 1, L: list(), V: vector(), Lev: []uint64{1}, Neg: below("-")}, vector(-3), 6},
		"empty lists, of signs":   {api.Sent{Scheme: api.SignS, Dim: 1, Scale: 3, L: list(), V: vector(), Lev: []uint64{}, Neg: below("-")}, vector(-3), 4},
	} {
		if got, e := press.Loosen(x.s); !slices.Equal(got, x.want) || e != api.OK {
			t.Errorf("%s: got %v, %d, not %v", name, got, e, x.want)
		}
		if got, e := press.Bytes(x.s); got != x.bytes || e != api.OK {
			t.Errorf("%s: got %d bytes, %d, not %d", name, got, e, x.bytes)
		}
	}
}

// none are vectors that may not be.
func none() map[string]api.Sent {
	return map[string]api.Sent{
		"nothing":                 {},
		"no numbers":              dense(),
		"too many numbers":        dense(make([]int64, api.MaxDim+1)...),
		"fewer numbers":           {Dim: 3, V: vector(1, 2)},
		"more numbers":            {Dim: 1, V: vector(1, 2)},
		"numbers and places":      {Dim: 1, V: vector(1), L: list(0)},
		"numbers of a scale":      {Dim: 1, V: vector(1), Scale: 1},
		"numbers of a width":      {Dim: 1, V: vector(1), Wide: 1},
		"numbers and signs":       {Dim: 1, V: vector(1), Neg: below("+")},
		"numbers and levels":      {Dim: 1, V: vector(1), Lev: []uint64{1}},
		"no such scheme":          {Scheme: 4, Dim: 1, V: vector(1)},
		"a scheme below 0":        {Scheme: -1, Dim: 1, V: vector(1)},
		"places of no dimension":  places(0, list()),
		"places of one too great": places(api.MaxDim+1, list(1), 5),
		"places of one below 0":   places(low, list()),
		"places that fall":        places(4, list(2, 1), 5, 7),
		"a place twice":           places(4, list(1, 1), 5, 7),
		"a place behind the end":  places(4, list(4), 5),
		"a place below 0":         places(4, list(-1), 5),
		"fewer than places":       places(4, list(1, 2), 5),
		"more than places":        places(4, list(1), 5, 7),
		"a scale of levels low":   levels(-1, 1, "+", 1),
		"levels of no width":      levels(1, 0, "+", 0),
		"levels of too great one": levels(1, 9, "+", 0),
		"a level too great":       levels(1, 2, "++", 0, 4),
		"fewer levels":            levels(1, 2, "++", 0),
		"more levels":             levels(1, 2, "+", 0, 0),
		"levels and numbers":      {Scheme: api.LevelS, Dim: 1, Wide: 1, Lev: []uint64{0}, Neg: below("+"), V: vector(0)},
		"a scale of signs low":    signs(-1, "+"),
		"fewer signs":             {Scheme: api.SignS, Dim: 2, Neg: below("+")},
		"signs of a width":        {Scheme: api.SignS, Dim: 1, Wide: 1, Neg: below("+")},
		"signs and levels":        {Scheme: api.SignS, Dim: 1, Lev: []uint64{0}, Neg: below("+")},
	}
}

// P12.2: what may not be is neither loosened nor written, and nothing is left of it: that comes ahead of all that is wrong with the vector.
func TestWhatMayNotBe(t *testing.T) {
	for name, s := range none() {
		if v, e := press.Loosen(s); len(v) != 0 || e != api.ErrArg {
			t.Errorf("%s: got %d numbers, %d", name, len(v), e)
		}
		if n, e := press.Bytes(s); n != 0 || e != api.ErrArg {
			t.Errorf("%s: got %d bytes, %d", name, n, e)
		}
		for _, of := range []int{0, 1, 2, 4, api.MaxDim + 1} {
			if left, e := press.Left(make([]int64, of), s); len(left) != 0 || e != api.ErrArg {
				t.Errorf("%s: got %d are left of %d, %d", name, len(left), of, e)
			}
		}
	}
}

// P12.2: Left's errors behind that, in their order, beside which all is zero.
func TestLeftErrors(t *testing.T) {
	for name, x := range map[string]struct {
		v []int64
		s api.Sent
		e api.Errno
	}{
		"too many":                  {make([]int64, api.MaxDim+1), dense(1), api.ErrLong},
		"too many, which go over":   {append(vector(most), make([]int64, api.MaxDim)...), dense(-1), api.ErrLong},
		"too many, as signs":        {make([]int64, api.MaxDim+1), signs(1, "+"), api.ErrLong},
		"none":                      {nil, dense(1), api.ErrShape},
		"fewer":                     {vector(1), places(2, list()), api.ErrShape},
		"more":                      {vector(1, 2, 3), levels(1, 1, "++", 0, 0), api.ErrShape},
		"more, which go over":       {vector(most, 1), signs(1, "-"), api.ErrShape},
		"the least less one":        {vector(low), dense(1), api.ErrOver},
		"over at the end":           {vector(1, 2, most), places(3, list(2), -1), api.ErrOver},
		"over in levels":            {vector(-2), levels(most, 3, "+", 7), api.ErrOver},
		"over in signs":             {vector(0, 1), signs(most, "+-"), api.ErrOver},
		"the least is not opposite": {vector(0), dense(low), api.ErrOver},
	} {
		if got, e := press.Left(x.v, x.s); len(got) != 0 || e != x.e {
			t.Errorf("%s: got %v, %d, not %d", name, got, e, x.e)
		}
	}
}

// chance are numbers that look like it; others for another seed.
type chance uint64

func (c *chance) next() uint64 {
	*c = *c*6364136223846793005 + 1442695040888963407
	return uint64(*c >> 11)
}

// number is one of at most so many bits, or fewer, of either sign.
func (c *chance) number(bits uint64) int64 {
	return int64(c.next()<<11|c.next()%2048) >> (64 - bits + c.next()%bits)
}

func (c *chance) numbers(n int) []int64 {
	v := make([]int64, n)
	bits := []uint64{1, 2, 4, 8, 33, 57, 62, 64}[c.next()%8]
	for i := range v {
		v[i] = c.number(bits)
	}
	return v
}

// great are numbers most of which are: sums of two go over now and then.
func (c *chance) great(n int) []int64 {
	v := make([]int64, n)
	for i := range v {
		v[i] = int64(c.next()<<11 | c.next()%2048)
	}
	return v
}

func (c *chance) signs(n int) []bool {
	l := make([]bool, n)
	for i := range l {
		l[i] = c.next()%2 == 0
	}
	return l
}

// sent is a vector of a few numbers, of any scheme.
func (c *chance) sent(dim int) api.Sent {
	s := api.Sent{Scheme: int(c.next() % 4), Dim: dim}
	switch s.Scheme {
	case api.DenseS:
		s.V = c.numbers(dim)
	case api.TopS:
		for at := range dim {
			if c.next()%2 == 0 {
				s.L = append(s.L, at)
			}
		}
		s.V = c.numbers(len(s.L))
	case api.LevelS:
		s.Scale, s.Wide, s.Neg = c.number(64)&most, int(c.next()%8)+1, c.signs(dim)
		for range dim {
			s.Lev = append(s.Lev, c.next()%(1<<s.Wide))
		}
	case api.SignS:
		s.Scale, s.Neg = c.number(64)&most, c.signs(dim)
	}
	return s
}

// changed is such a vector, some of its parts changed.
func (c *chance) changed() api.Sent {
	s := c.sent(int(c.next()%4) + 1)
	for range c.next() % 3 {
		switch c.next() % 8 {
		case 0:
			s.Scheme = int(c.next()%7) - 1
		case 1:
			s.Dim = int(c.next()%7) - 1
		case 2:
			s.Scale = c.number(64)
		case 3:
			s.Wide = int(c.next()%12) - 1
		case 4:
			s.Lev = make([]uint64, c.next()%5)
		case 5:
			s.Neg = make([]bool, c.next()%5)
		case 6:
			s.L = append(s.L, int(c.next()%6)-1)
		case 7:
			s.V = c.numbers(int(c.next() % 5))
		}
	}
	return s
}

// looseByWords is what a vector that may be is loosened to, as the chapters' words tell it.
func looseByWords(s api.Sent) []int64 {
	v := make([]int64, s.Dim)
	for at := range v {
		size := new(big.Int)
		switch s.Scheme {
		case api.DenseS:
			size.SetInt64(s.V[at])
		case api.TopS:
			if i := slices.Index(s.L, at); i >= 0 {
				size.SetInt64(s.V[i])
			}
		case api.LevelS:
			size.SetUint64(s.Lev[at])
			size.Mul(size, big.NewInt(s.Scale)).Div(size, big.NewInt(int64(1)<<s.Wide-1))
		case api.SignS:
			size.SetInt64(s.Scale)
		}
		if len(s.Neg) > 0 && s.Neg[at] {
			size.Neg(size)
		}
		v[at] = size.Int64()
	}
	return v
}

// leftByWords is what is left of a vector, and what is wrong with it.
func leftByWords(v, loose []int64) ([]int64, api.Errno) {
	if len(v) != len(loose) {
		return nil, api.ErrShape
	}
	left := make([]int64, len(v))
	for i := range v {
		rest := new(big.Int).Sub(big.NewInt(v[i]), big.NewInt(loose[i]))
		if !rest.IsInt64() {
			return nil, api.ErrOver
		}
		left[i] = rest.Int64()
	}
	return left, api.OK
}

// P12.2: whatever a vector's parts are, it is loosened, and is left, as the words tell it, just if it may be.
func TestLoosenIsAsTheWordsTell(t *testing.T) {
	c := chance(21)
	good := [4]int{}
	wrong := map[api.Errno]int{}
	for range 30000 {
		s := c.changed()
		v := c.numbers(max(0, s.Dim-int(c.next()%8/7)))
		loose, e := press.Loosen(s)
		left, f := press.Left(v, s)
		bytes, g := press.Bytes(s)
		if !frame.May(s) {
			if len(loose) != 0 || e != api.ErrArg || len(left) != 0 || f != api.ErrArg || bytes != 0 || g != api.ErrArg {
				t.Fatalf("%v: got %v, %d, %v, %d, %d, %d", s, loose, e, left, f, bytes, g)
			}
			wrong[f]++
			continue
		}
		good[s.Scheme]++
		want := looseByWords(s)
		rest, fault := leftByWords(v, want)
		wrong[fault]++
		if !slices.Equal(loose, want) || e != api.OK {
			t.Fatalf("%v: got %v, %d, not %v", s, loose, e, want)
		}
		if !slices.Equal(left, rest) || f != fault {
			t.Fatalf("%v, %v: got %v, %d, not %v, %d", v, s, left, f, rest, fault)
		}
		if body, _ := frame.Body(s); bytes != len(body) || g != api.OK {
			t.Fatalf("%v: got %d, %d, not %d", s, bytes, g, len(body))
		}
	}
	if slices.Min(good[:]) < 1000 {
		t.Errorf("%v may be", good)
	}
	for _, e := range []api.Errno{api.OK, api.ErrArg, api.ErrOver, api.ErrShape} {
		if wrong[e] < 200 {
			t.Errorf("%d is told %d times", e, wrong[e])
		}
	}
}
