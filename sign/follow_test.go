package sign_test

import (
	"math/big"
	"slices"
	"testing"

	"thrum/api"
	"thrum/frame"
	"thrum/sign"
	"thrum/vec"
)

// chance are numbers that look like it; others for another seed.
type chance uint64

func (c *chance) next() uint64 {
	*c = *c*6364136223846793005 + 1442695040888963407
	return uint64(*c >> 11)
}

// number is one of at most so many bits, or fewer, of either sign.
func (c *chance) number(bits uint64) int64 {
	return int64(c.next()<<11|c.next()%2048) >> (64 - bits + c.next()%bits)
}

func (c *chance) numbers(n int) []int64 {
	v := make([]int64, n)
	bits := []uint64{1, 2, 4, 8, 33, 57, 62, 64, 64}[c.next()%9]
	for i := range v {
		v[i] = c.number(bits)
	}
	return v
}

func (c *chance) signs(n int) []bool {
	l := make([]bool, n)
	for i := range l {
		l[i] = c.next()%2 == 0
	}
	return l
}

// vectors are many, short and long, and ones at the edges.
func vectors() [][]int64 {
	c := chance(13)
	l := [][]int64{nil, {low}, {most, 0}, {most, 1}, {most, -1}, {-most}, {most - 1, -1}, {low, most}}
	for n := range 40 {
		for range 20 {
			l = append(l, c.numbers(n))
		}
	}
	return append(l, c.numbers(1000), many(api.MaxDim), make([]int64, api.MaxDim+1))
}

// meanByWords is how great a vector is, as the chapter's words tell it, and whether that goes over.
func meanByWords(v []int64) (*big.Int, bool) {
	sum, over := new(big.Int), false
	for _, n := range v {
		size := new(big.Int).Abs(big.NewInt(n))
		sum.Add(sum, size)
		over = over || !size.IsInt64() || !sum.IsInt64()
	}
	return sum.Div(sum, big.NewInt(int64(len(v)))), over
}

// errorByWords is what is wrong with a vector that is to be pressed.
func errorByWords(v []int64) api.Errno {
	if len(v) == 0 {
		return api.ErrArg
	}
	if len(v) > api.MaxDim {
		return api.ErrLong
	}
	if _, over := meanByWords(v); over {
		return api.ErrOver
	}
	return api.OK
}

// P11.1: means and pressed vectors are as the words tell them; what is pressed may be.
func TestPressedIsAsTheWordsTell(t *testing.T) {
	fine, over := 0, 0
	for _, v := range vectors() {
		mean, e := sign.Mean(v...)
		s, f := sign.Press(v...)
		if want := errorByWords(v); e != want || f != want {
			t.Fatalf("%v: got %d, %d, not %d", v, e, f, want)
		}
		if e != api.OK {
			if mean != 0 || !same(s, api.Sent{}) {
				t.Fatalf("%v: got %d, %v", v, mean, s)
			}
			over++
			continue
		}
		fine++
		want, _ := meanByWords(v)
		neg := make([]bool, len(v))
		for i, n := range v {
			neg[i] = n < 0
		}
		if mean != want.Int64() || !same(s, pressed(mean, neg...)) || !frame.May(s) {
			t.Fatalf("%v: got %d, %v, not %v, %v", v, mean, s, want, neg)
		}
	}
	if fine < 400 || over < 30 {
		t.Errorf("%d are pressed, %d are not", fine, over)
	}
}

// P11.2: of a vector whose parts are changed Loosen tells an error just if it may not be any more.
func TestLoosenAsksWhetherItMayBe(t *testing.T) {
	c := chance(21)
	good := 0
	for range 20000 {
		s := changed(&c)
		got, e := sign.Loosen(s)
		if !frame.May(s) || s.Scheme != api.SignS {
			if len(got) != 0 || e != api.ErrArg {
				t.Fatalf("%v: got %v, %d", s, got, e)
			}
			continue
		}
		good++
		if len(got) != s.Dim || e != api.OK {
			t.Fatalf("%v: got %v, %d", s, got, e)
		}
		for i, n := range got {
			if s.Neg[i] && n != -s.Scale || !s.Neg[i] && n != s.Scale {
				t.Fatalf("%v: got %d at %d", s, n, i)
			}
		}
	}
	if good < 2000 || good > 18000 {
		t.Errorf("%d may be", good)
	}
}

// changed is a vector of a few signs, some of its parts changed.
func changed(c *chance) api.Sent {
	s := pressed(int64(c.next()%20), c.signs(int(c.next()%4)+1)...)
	for range c.next() % 3 {
		switch c.next() % 7 {
		case 0:
			s.Scheme = int(c.next()%6) - 1
		case 1:
			s.Dim = int(c.next()%7) - 1
		case 2:
			s.Scale = c.number(64)
		case 3:
			s.Wide = int(c.next()%5) - 2
		case 4:
			s.Lev = make([]uint64, c.next()%3)
		case 5:
			s.Neg = make([]bool, c.next()%5)
		case 6:
			s.L, s.V = make([]int, c.next()%2), make([]int64, c.next()%2)
		}
	}
	return s
}

// P11.2: of two numbers of a few, every vector of a few signs is told just if it is what is pressed.
func TestIsAsPressHasIt(t *testing.T) {
	for a := int64(-4); a <= 4; a++ {
		for b := int64(-4); b <= 4; b++ {
			are := 0
			want, _ := sign.Press(a, b)
			for code := range 8 * 4 * 3 * 4 {
				scale, neg := int64(code%8)-1, signs(code/8%2 == 1, code/16%2 == 1)
				s := api.Sent{Scheme: code / 96, Dim: 1 + code/32%3, Scale: scale, Neg: neg}
				got := sign.Is(vector(a, b), s)
				if got != same(s, want) {
					t.Fatalf("Is(%d, %d, %v): got %t", a, b, s, got)
				}
				if got {
					are++
				}
			}
			if are != 1 {
				t.Errorf("%d, %d: %d are", a, b, are)
			}
		}
	}
}

// P11.2: what is pressed, is; with one sign, or the scale, changed it is not.
func TestWhatIsPressedIs(t *testing.T) {
	c := chance(5)
	for _, v := range vectors() {
		s, e := sign.Press(v...)
		if sign.Is(v, s) != (e == api.OK) {
			t.Fatalf("%v: got %v, %d", v, s, e)
		}
		if e != api.OK {
			continue
		}
		at := c.next() % uint64(len(v))
		s.Neg[at] = !s.Neg[at]
		if sign.Is(v, s) {
			t.Fatalf("%v: another sign at %d", v, at)
		}
		s.Neg[at] = !s.Neg[at]
		s.Scale++
		if sign.Is(v, s) {
			t.Fatalf("%v: another scale", v)
		}
	}
}

// P11.3: votes are as the words tell them, place by place; and turns.
func TestVotesAreAsTheWordsTell(t *testing.T) {
	c := chance(3)
	for of := range 9 {
		for range 300 {
			dim := int(c.next() % 12)
			l := make([][]bool, of)
			for i := range l {
				l[i] = c.signs(dim)
			}
			want := votesByWords(l)
			if got, e := sign.Votes(l...); !slices.Equal(got, want) || e != api.OK {
				t.Fatalf("Votes(%v): got %v, %d, not %v", l, got, e, want)
			}
			a, b := c.signs(dim), c.signs(dim)
			if got, e := sign.Turns(a, b); got != turnsByWords(a, b) || e != api.OK {
				t.Fatalf("Turns(%v, %v): got %d, %d", a, b, got, e)
			}
		}
	}
}

// votesByWords goes place by place, and list by list.
func votesByWords(l [][]bool) []bool {
	var votes []bool
	for at := 0; len(l) > 0 && at < len(l[0]); at++ {
		yes, no := 0, 0
		for _, one := range l {
			if one[at] {
				yes++
			} else {
				no++
			}
		}
		votes = append(votes, yes > no)
	}
	return votes
}

func turnsByWords(a, b []bool) int {
	turns := 0
	for at := range a {
		if a[at] && !b[at] || b[at] && !a[at] {
			turns++
		}
	}
	return turns
}

// P11.3: however long and however many the lists are, the error is as the words tell it.
func TestVotesErrorsAreAsTheWordsTell(t *testing.T) {
	lengths := []int{0, 1, 2, api.MaxDim - 1, api.MaxDim, api.MaxDim + 1}
	for code := range 6 * 6 * 6 {
		l := [][]bool{make([]bool, lengths[code%6]), make([]bool, lengths[code/6%6]), make([]bool, lengths[code/36])}
		for of := range len(l) + 1 {
			want := shapeByWords(l[:of])
			if got, e := sign.Votes(l[:of]...); e != want || e != api.OK && len(got) != 0 {
				t.Errorf("%d: got %d signs, %d, not %d", code, len(got), e, want)
			}
			if of != 2 {
				continue
			}
			if got, e := sign.Turns(l[0], l[1]); got != 0 || e != want {
				t.Errorf("%d: got %d, %d, not %d", code, got, e, want)
			}
		}
	}
}

func shapeByWords(l [][]bool) api.Errno {
	longest, shortest := 0, api.MaxDim
	for _, one := range l {
		longest, shortest = max(longest, len(one)), min(shortest, len(one))
	}
	switch {
	case longest > api.MaxDim:
		return api.ErrLong
	case len(l) > 0 && longest != shortest:
		return api.ErrShape
	}
	return api.OK
}

// P11.4: loosened, a vector has the same signs, and its sizes' sum is no more than that of what was pressed, and less by fewer than there are.
func TestLoosenedItIsNotFarOff(t *testing.T) {
	fine := 0
	for _, v := range vectors() {
		s, e := sign.Press(v...)
		if e != api.OK {
			continue
		}
		fine++
		loose, e := sign.Loosen(s)
		if len(loose) != len(v) || e != api.OK {
			t.Fatalf("%v: got %v, %d", v, loose, e)
		}
		for i, n := range v {
			if n != 0 && loose[i] != 0 && (n < 0) != (loose[i] < 0) {
				t.Fatalf("%v: got %d at %d", v, loose[i], i)
			}
		}
		size, e := vec.Size(v...)
		less, f := vec.Size(loose...)
		if e != api.OK || f != api.OK || less > size || size-less >= int64(len(v)) {
			t.Fatalf("%v: got %d, %d, of %d, %d", v, less, f, size, e)
		}
	}
	if fine < 400 {
		t.Errorf("%d are pressed", fine)
	}
}

// P11.4: what is loosened is pressed to the same again, where it is not all zeros.
func TestLoosenedItIsPressedAgain(t *testing.T) {
	for _, v := range vectors() {
		s, e := sign.Press(v...)
		if e != api.OK || s.Scale == 0 {
			continue
		}
		loose, _ := sign.Loosen(s)
		if again, e := sign.Press(loose...); !same(again, s) || e != api.OK || !sign.Is(loose, s) {
			t.Fatalf("%v: got %v, %d, not %v", v, again, e, s)
		}
	}
}
