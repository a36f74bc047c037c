package press_test

import (
	"math/big"
	"slices"
	"testing"

	"thrum/api"
	"thrum/frame"
	"thrum/press"
	"thrum/quant"
	"thrum/sign"
	"thrum/topk"
	"thrum/vec"
)

// vectors are many, short and long, and ones at the edges.
func vectors() [][]int64 {
	c := chance(13)
	l := [][]int64{{0}, {low}, {most}, {-most}, {0, 0, 0}, {most, 1}, {most, -1}, {low, most}, {most, -most, 0, 1, -1, most - 1, 1 - most}}
	for n := range 30 {
		for range 8 {
			l = append(l, c.numbers(n+1))
		}
		l = append(l, c.great(n+1), append(c.numbers(n), low))
	}
	return append(l, c.numbers(257), c.numbers(1000), many(api.MaxDim))
}

// called calls with each of many vectors, each of its ways, a seed and numbers to draw for.
func called(call func(h api.How, v []int64, seed uint64, n []int)) {
	c := chance(7)
	for _, v := range vectors() {
		for _, h := range ways(len(v)) {
			n := make([]int, c.next()%4)
			for i := range n {
				n[i] = int(c.number(64))
			}
			call(h, v, c.next()*c.next(), n)
		}
	}
}

// pressByWords is what a vector is pressed to, in a way that may be for it, as the chapter's words tell it.
func pressByWords(h api.How, v []int64, seed uint64, n []int) (api.Sent, api.Errno) {
	switch h.Scheme {
	case api.DenseS:
		return dense(v...), api.OK
	case api.TopS:
		return topk.Press(h.K, v...)
	case api.LevelS:
		return quant.Press(v, h.Wide, seed, n...)
	}
	return sign.Press(v...)
}

// P12.1: what is pressed is as the words tell it, and it may be.
func TestPressedIsAsTheWordsTell(t *testing.T) {
	fine, over := [4]int{}, [4]int{}
	called(func(h api.How, v []int64, seed uint64, n []int) {
		want, wrong := pressByWords(h, v, seed, n)
		got, e := press.Press(h, v, seed, n...)
		if !same(got, want) || e != wrong {
			t.Fatalf("Press(%v, %v, %d, %v): got %v, %d, not %v, %d", h, v, seed, n, got, e, want, wrong)
		}
		if e != api.OK {
			over[h.Scheme]++
			return
		}
		fine[h.Scheme]++
		if !frame.May(got) {
			t.Fatalf("Press(%v, %v, %d, %v): %v may not be", h, v, seed, n, got)
		}
	})
	if slices.Min(fine[:]) < 150 || over[0] > 0 || over[1] > 0 || over[2] < 60 || over[3] < 40 {
		t.Errorf("%v are pressed, %v are not", fine, over)
	}
}

// P12.5: what is pressed meets its way, also when it was written and read; what it is loosened to, and what is left, are what was pressed.
func TestNothingIsLost(t *testing.T) {
	called(func(h api.How, v []int64, seed uint64, n []int) {
		s, e := press.Press(h, v, seed, n...)
		if e != api.OK {
			return
		}
		text, _ := frame.Write(api.Frame{Kind: api.DataK, S: s})
		f, e := frame.Read(text)
		if !press.Meets(h, v, s) || !press.Meets(h, v, f.S) || e != api.OK {
			t.Fatalf("%v, %v: %v does not, or %v, %d", h, v, s, f.S, e)
		}
		loose, e := press.Loosen(s)
		left, wrong := press.Left(v, s)
		all, over := vec.Add(loose, left)
		if e != api.OK || wrong != api.OK || over != api.OK || !slices.Equal(all, v) {
			t.Fatalf("%v, %v: got %v, %d, and %v is left, %d", h, v, loose, e, left, wrong)
		}
		size, e := press.Bytes(s)
		if body, _ := frame.Body(f.S); size != len(body) || e != api.OK {
			t.Fatalf("%v, %v: got %d, %d, not %d", h, v, size, e, len(body))
		}
	})
}

// P12.3, P12.5: Round of whatever it is handed is what Add, Press and Left make of it.
func TestRoundIsAsTheWordsTell(t *testing.T) {
	told := map[api.Errno]int{}
	c := chance(31)
	called(func(h api.How, g []int64, seed uint64, n []int) {
		if c.next()%4 == 0 {
			h.Wide++
		}
		left := c.numbers(len(g))
		switch c.next() % 8 {
		case 0:
			left = left[1:]
		case 1:
			left = c.great(len(g))
		}
		s, rest, e := press.Round(h, g, left, seed, n...)
		told[e]++
		sum, wrong := vec.Add(g, left)
		var want api.Sent
		if wrong == api.OK {
			want, wrong = press.Press(h, sum, seed, n...)
		}
		var over []int64
		if wrong == api.OK {
			over, wrong = press.Left(sum, want)
		}
		if e != wrong || !same(s, want) || !slices.Equal(rest, over) {
			t.Fatalf("Round(%v, %v, %v, %d, %v): got %v, %v, %d, not %v, %v, %d", h, g, left, seed, n, s, rest, e, want, over, wrong)
		}
	})
	for _, e := range []api.Errno{api.OK, api.ErrArg, api.ErrOver, api.ErrShape} {
		if told[e] < 100 {
			t.Errorf("%d is told %d times", e, told[e])
		}
	}
}

// total is numbers added up without end, place by place.
type total []*big.Int

func newTotal(dim int) total {
	sum := make(total, dim)
	for i := range sum {
		sum[i] = new(big.Int)
	}
	return sum
}

func (x total) add(v []int64) {
	for i, n := range v {
		x[i].Add(x[i], big.NewInt(n))
	}
}

func (x total) same(y total) bool {
	return slices.EqualFunc(x, y, func(a, b *big.Int) bool { return a.Cmp(b) == 0 })
}

// P12.5: round by round, all that was sent, and what is left at the end, are all that there was.
func TestNothingIsLostRoundByRound(t *testing.T) {
	c := chance(5)
	for _, dim := range []int{1, 2, 7, 40} {
		for _, h := range ways(dim) {
			for _, bits := range []uint64{3, 20, 56} {
				was, sent, left := newTotal(dim), newTotal(dim), make([]int64, dim)
				for step := range 40 {
					g := make([]int64, dim)
					for i := range g {
						g[i] = c.number(bits)
					}
					s, rest, e := press.Round(h, g, left, 99, dim, step)
					if e != api.OK || !press.Meets(h, plus(g, left), s) {
						t.Fatalf("%v: %v, %v: got %v, %d", h, g, left, s, e)
					}
					loose, _ := press.Loosen(s)
					was.add(g)
					sent.add(loose)
					left = rest
				}
				sent.add(left)
				if !sent.same(was) {
					t.Errorf("%v, %d, %d bits: %v was, %v is", h, dim, bits, was, sent)
				}
			}
		}
	}
}

// P12.5: with nothing more to press all comes to be sent: of places that are enough in one round, of one alone in as many as there are numbers.
func TestWhatIsLeftIsSent(t *testing.T) {
	for _, k := range []int{1, 2, 3, 7} {
		left, zeros := many(7), make([]int64, 7)
		sent := newTotal(7)
		for range (7 + k - 1) / k {
			s, rest, e := press.Round(way(1, k, 0), zeros, left, 1)
			loose, f := press.Loosen(s)
			if e != api.OK || f != api.OK {
				t.Fatalf("%d: got %d, %d", k, e, f)
			}
			sent.add(loose)
			left = rest
		}
		was := newTotal(7)
		was.add(many(7))
		if !sent.same(was) || !slices.Equal(left, zeros) {
			t.Errorf("%d: %v was sent, %v is left", k, sent, left)
		}
	}
}
