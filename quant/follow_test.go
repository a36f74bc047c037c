package quant_test

import (
	"math/big"
	"slices"
	"testing"

	"thrum/api"
	"thrum/draw"
	"thrum/frame"
	"thrum/quant"
	"thrum/vec"
)

// chance are numbers that look like it; others for another seed.
type chance uint64

func (c *chance) next() uint64 {
	*c = *c*6364136223846793005 + 1442695040888963407
	return uint64(*c >> 11)
}

// number is one of at most so many bits, or fewer, of either sign; the least one of all is none.
func (c *chance) number(bits uint64) int64 {
	return max(int64(c.next()<<11|c.next()%2048)>>(64-bits+c.next()%bits), -most)
}

func (c *chance) numbers(n int) []int64 {
	v := make([]int64, n)
	bits := list(1, 2, 4, 8, 33, 56, 57, 64)[c.next()%8]
	for i := range v {
		v[i] = c.number(uint64(bits))
	}
	return v
}

// vectors are many, short and long, none of them without numbers.
func vectors() [][]int64 {
	c := chance(9)
	l := [][]int64{{0}, {0, 0, 0}, {most}, {-most}, {most, -most, 0, 1, -1, most - 1, 1 - most}}
	for n := range 30 {
		for range 5 {
			l = append(l, c.numbers(n+1))
		}
	}
	return append(l, c.numbers(100), c.numbers(255), c.numbers(256), c.numbers(257))
}

// whole is a number without end.
func whole(n int64) *big.Int { return big.NewInt(n) }

// topByWords is the greatest level of a width.
func topByWords(wide int) *big.Int {
	return new(big.Int).Sub(new(big.Int).Lsh(whole(1), uint(wide)), whole(1))
}

// levelByWords is a number's level, and its rest, as the chapter's words tell it.
func levelByWords(n, scale int64, wide int) (uint64, uint64) {
	if scale == 0 {
		return 0, 0
	}
	product := new(big.Int).Mul(new(big.Int).Abs(whole(n)), topByWords(wide))
	level, rest := new(big.Int).DivMod(product, whole(scale), new(big.Int))
	return level.Uint64(), rest.Uint64()
}

// valueByWords is a level's number, as the chapter's words tell it.
func valueByWords(level uint64, scale int64, wide int) int64 {
	product := new(big.Int).Mul(new(big.Int).SetUint64(level), whole(scale))
	return product.Div(product, topByWords(wide)).Int64()
}

// P10.1: levels, rests and levels' numbers are as the words tell them, of small numbers all.
func TestSmallOnesAreAsTheWordsTell(t *testing.T) {
	for wide := 1; wide <= 8; wide++ {
		for scale := range int64(40) {
			for n := -scale; n <= scale; n++ {
				checkLevel(t, n, scale, wide)
			}
			for l := range uint64(1) << wide {
				checkValue(t, l, scale, wide)
			}
		}
	}
}

// P10.1: of numbers of all sizes.
func TestGreatOnesAreAsTheWordsTell(t *testing.T) {
	c := chance(3)
	for range 20000 {
		n, scale := c.number(64), c.number(64)
		scale = max(scale, -scale)
		wide := int(c.next()%8) + 1
		if n > scale || n < -scale {
			if got := level(quant.Level(n, scale, wide)); got != bad(api.ErrArg) {
				t.Fatalf("Level(%d, %d, %d): got %v", n, scale, wide, got)
			}
			n %= scale + 1
		}
		checkLevel(t, n, scale, wide)
		checkValue(t, c.next()%(1<<wide), scale, wide)
	}
}

func checkLevel(t *testing.T, n, scale int64, wide int) {
	t.Helper()
	l, rest := levelByWords(n, scale, wide)
	if got := level(quant.Level(n, scale, wide)); got != level(l, rest, api.OK) {
		t.Fatalf("Level(%d, %d, %d): got %v, not %d, %d", n, scale, wide, got, l, rest)
	}
}

func checkValue(t *testing.T, l uint64, scale int64, wide int) {
	t.Helper()
	want := valueByWords(l, scale, wide)
	if got := value(quant.Value(l, scale, wide)); got != value(want, api.OK) {
		t.Fatalf("Value(%d, %d, %d): got %v, not %d", l, scale, wide, got, want)
	}
}

// scaleOf is the greatest size.
func scaleOf(v []int64) int64 {
	return max(slices.Max(v), -slices.Min(v))
}

// pressByWords is a vector in levels, as the chapter's words tell it.
func pressByWords(v []int64, wide int, seed uint64, n []int) api.Sent {
	scale := scaleOf(v)
	s := pressed(scale, wide, make([]uint64, len(v)), make([]bool, len(v)))
	for i, x := range v {
		l, rest := levelByWords(x, scale, wide)
		if rest != 0 && draw.At(seed, slices.Concat(n, list(i))...)%uint64(scale) < rest {
			l++
		}
		s.Lev[i], s.Neg[i] = l, x < 0
	}
	return s
}

// called calls with each of many vectors, a width, a seed and numbers to draw for.
func called(call func(v []int64, wide int, seed uint64, n []int)) {
	c := chance(7)
	for _, v := range vectors() {
		for wide := 1; wide <= 8; wide++ {
			n := make([]int, c.next()%4)
			for i := range n {
				n[i] = int(c.number(64))
			}
			call(v, wide, c.next()*c.next(), n)
		}
	}
}

// P10.2: what is pressed is as the words tell it, and it may be.
func TestPressedIsAsTheWordsTell(t *testing.T) {
	called(func(v []int64, wide int, seed uint64, n []int) {
		want := pressByWords(v, wide, seed, n)
		got, e := quant.Press(v, wide, seed, n...)
		if !same(got, want) || e != api.OK {
			t.Fatalf("Press(%v, %d, %d, %v): got %v, %d, not %v", v, wide, seed, n, got, e, want)
		}
		if !frame.May(got) {
			t.Fatalf("Press(%v, %d, %d, %v): %v may not be", v, wide, seed, n, got)
		}
	})
}

// P10.2: over many seeds both ways are gone, as often as the rest has it, or about so.
func TestUpAndDown(t *testing.T) {
	const seeds = 4000
	up := [2]int{}
	for seed := range uint64(seeds) {
		s, e := quant.Press(mixed(), 2, seed, 4, 9)
		if e != api.OK {
			t.Fatalf("%d: got %d", seed, e)
		}
		up[0] += int(s.Lev[1] - 2)
		up[1] += int(s.Lev[3])
	}
	// The rests are 1 and 9 of 10.
	if up[0] < seeds/20 || up[0] > seeds*3/20 || up[1] < seeds*17/20 || up[1] > seeds*19/20 {
		t.Errorf("got %v of %d", up, seeds)
	}
}

// P10.2: it hangs on the seed, on each number that is drawn for, and on their order.
func TestItHangsOnWhatIsDrawnFor(t *testing.T) {
	v := many(100)
	first, _ := quant.Press(v, 4, 7, 4, 9)
	for name, call := range map[string]func() (api.Sent, api.Errno){
		"another seed":   func() (api.Sent, api.Errno) { return quant.Press(v, 4, 8, 4, 9) },
		"another number": func() (api.Sent, api.Errno) { return quant.Press(v, 4, 7, 4, 10) },
		"turned":         func() (api.Sent, api.Errno) { return quant.Press(v, 4, 7, 9, 4) },
		"one fewer":      func() (api.Sent, api.Errno) { return quant.Press(v, 4, 7, 4) },
		"one more":       func() (api.Sent, api.Errno) { return quant.Press(v, 4, 7, 4, 9, 0) },
		"none":           func() (api.Sent, api.Errno) { return quant.Press(v, 4, 7) },
	} {
		if s, e := call(); e != api.OK || same(s, first) || !quant.Near(v, s) {
			t.Errorf("%s: got %v, %d", name, s.Lev, e)
		}
	}
	if again, e := quant.Press(v, 4, 7, 4, 9); e != api.OK || !same(again, first) {
		t.Errorf("got %v, %d", again, e)
	}
}

// P10.3: of a vector whose parts are changed Loosen tells an error just if it may not be any more.
func TestLoosenAsksWhetherItMayBe(t *testing.T) {
	c := chance(21)
	good := 0
	for range 20000 {
		s := changed(&c)
		got, e := quant.Loosen(s)
		if !frame.May(s) || s.Scheme != api.LevelS {
			if len(got) != 0 || e != api.ErrArg {
				t.Fatalf("%v: got %v, %d", s, got, e)
			}
			continue
		}
		good++
		if len(got) != s.Dim || e != api.OK {
			t.Fatalf("%v: got %v, %d", s, got, e)
		}
		for i, n := range got {
			if want := valueByWords(s.Lev[i], s.Scale, s.Wide); n != want && !s.Neg[i] || n != -want && s.Neg[i] {
				t.Fatalf("%v: got %v at %d, not %d", s, n, i, want)
			}
		}
	}
	if good < 2000 || good > 18000 {
		t.Errorf("%d may be", good)
	}
}

// changed is a vector of a few numbers in levels, some of its parts changed.
func changed(c *chance) api.Sent {
	dim := int(c.next()%4) + 1
	s := pressed(int64(c.next()%20), int(c.next()%8)+1, make([]uint64, dim), make([]bool, dim))
	for i := range dim {
		s.Lev[i], s.Neg[i] = c.next()%(1<<s.Wide), c.next()%2 == 0
	}
	for range c.next() % 3 {
		switch c.next() % 8 {
		case 0:
			s.Scheme = int(c.next()%6) - 1
		case 1:
			s.Dim = int(c.next()%7) - 1
		case 2:
			s.Scale = c.number(64)
		case 3:
			s.Wide = int(c.next()%12) - 1
		case 4:
			s.Lev[c.next()%uint64(len(s.Lev))] = c.next() % 300
		case 5:
			s.Lev = make([]uint64, c.next()%5+1)
		case 6:
			s.Neg = make([]bool, c.next()%5)
		case 7:
			s.L, s.V = make([]int, c.next()%2), make([]int64, c.next()%2)
		}
	}
	return s
}

// nearByWords tells whether a vector that may be is one that a vector is pressed to, as the chapter's words tell it.
func nearByWords(v []int64, s api.Sent) bool {
	if s.Scheme != api.LevelS || s.Dim != len(v) || s.Scale != scaleOf(v) {
		return false
	}
	for i, n := range v {
		l, rest := levelByWords(n, s.Scale, s.Wide)
		if s.Neg[i] != (n < 0) || s.Lev[i] != l && (rest == 0 || s.Lev[i] != l+1) {
			return false
		}
	}
	return true
}

// P10.3: of two numbers of a few, every vector in levels of a few is near just if the words say so.
func TestNearIsAsTheWordsTell(t *testing.T) {
	near := 0
	for _, a := range vector(-4, -3, -1, 0, 2, 4) {
		for _, b := range vector(-3, 0, 1, 4) {
			v := vector(a, b)
			for code := range 3 * 5 * 4 * 64 {
				wide, rest := code%3+1, code/3
				scale, rest := int64(rest%5), rest/5
				neg, rest := []bool{rest%2 == 1, rest/2%2 == 1}, rest/4
				s := pressed(scale, wide, levels(uint64(rest%8), uint64(rest/8)), neg)
				want := frame.May(s) && nearByWords(v, s)
				if got := quant.Near(v, s); got != want {
					t.Fatalf("Near(%v, %v): got %t", v, s, got)
				}
				if want {
					near++
				}
			}
		}
	}
	// Each of the 24 vectors is near at least one of every width.
	if near < 24*3 {
		t.Errorf("%d are near", near)
	}
}

// P10.4: what is pressed is near, whatever the seed.
func TestWhatIsPressedIsNear(t *testing.T) {
	called(func(v []int64, wide int, seed uint64, n []int) {
		for more := range uint64(5) {
			s, e := quant.Press(v, wide, seed+more, n...)
			if e != api.OK || !quant.Near(v, s) {
				t.Fatalf("%v, %d, %d, %v: got %v, %d", v, wide, seed+more, n, s, e)
			}
		}
	})
}

// P10.4: loosened, it is off by less than the scale by top, and one; the greatest number is itself.
func TestLoosenedItIsNotFarOff(t *testing.T) {
	called(func(v []int64, wide int, seed uint64, n []int) {
		s, e := quant.Press(v, wide, seed, n...)
		loose, f := quant.Loosen(s)
		if e != api.OK || f != api.OK || len(loose) != len(v) {
			t.Fatalf("%v: got %v, %d, %v, %d", v, s, e, loose, f)
		}
		scale, _ := vec.Most(v...)
		bound := new(big.Int).Add(whole(scale), topByWords(wide))
		for i, x := range v {
			off := new(big.Int).Sub(whole(x), whole(loose[i]))
			off.Abs(off).Mul(off, topByWords(wide))
			if off.Cmp(bound) >= 0 || (x == scale || x == -scale) && loose[i] != x || loose[i] != 0 && (loose[i] < 0) != (x < 0) {
				t.Fatalf("%v, %d: %d is %d", v, wide, x, loose[i])
			}
		}
	})
}
