package vec_test

import (
	"math/big"
	"slices"
	"testing"

	"thrum/api"
	"thrum/vec"
)

// vectors are some of up to a few numbers, small ones and ones at the edges.
func vectors() [][]int64 {
	pool := l(0, 1, -1, 2, -3, 7, -8, 1<<20+3, -1<<31, 1<<31-1, 1<<40+5, -1<<45-9, 1<<61+1, -1<<62, top-1, top, low+1, low)
	var all [][]int64
	n := uint64(0x9e3779b97f4a7c15)
	for i := range uint64(400) {
		v := make([]int64, i%6)
		// Small numbers alone at first, so that not all goes over.
		reach := min(uint64(len(pool)), 6+i/20)
		for k := range v {
			n = n*6364136223846793005 + 1442695040888963407
			v[k] = pool[n>>33%reach]
		}
		all = append(all, v)
	}
	return all
}

// pairs are all two of them that are as long as one another, and close to one another.
func pairs() [][2][]int64 {
	all := vectors()
	var l [][2][]int64
	for i, a := range all {
		for _, b := range all[i:min(len(all), i+40)] {
			if len(a) == len(b) {
				l = append(l, [2][]int64{a, b})
			}
		}
	}
	return l
}

func whole(n int64) *big.Int { return big.NewInt(n) }

// down is a whole number by 2^frac, down.
func down(n *big.Int, frac int) *big.Int { return new(big.Int).Rsh(n, uint(frac)) }

// placed is a vector of numbers without end as an answer.
func placed(l ...*big.Int) answer {
	v := []int64{}
	for _, n := range l {
		if !n.IsInt64() {
			return bad(api.ErrOver)
		}
		v = append(v, n.Int64())
	}
	return good(v...)
}

// added is the sum of numbers without end, each of which, and each sum on the way, must have a place.
func added(l ...*big.Int) answer {
	sum := new(big.Int)
	for _, n := range l {
		sum = new(big.Int).Add(sum, n)
		if !n.IsInt64() || !sum.IsInt64() {
			return badOne(api.ErrOver)
		}
	}
	return good(sum.Int64())
}

// P2.2, P2.3: two vectors, held against numbers without end.
func TestTwoAreAsWithoutEnd(t *testing.T) {
	fine := 0
	for _, p := range pairs() {
		a, b := p[0], p[1]
		var sums, rests []*big.Int
		for i := range a {
			sums = append(sums, new(big.Int).Add(whole(a[i]), whole(b[i])))
			rests = append(rests, new(big.Int).Sub(whole(a[i]), whole(b[i])))
		}
		if got, want := of(vec.Add(a, b)), placed(sums...); !got.is(want) {
			t.Errorf("Add(%v, %v): got %v, not %v", a, b, got, want)
		}
		if got, want := of(vec.Sub(a, b)), placed(rests...); !got.is(want) {
			t.Errorf("Sub(%v, %v): got %v, not %v", a, b, got, want)
		}
		for _, frac := range []int{0, 1, 16, 30} {
			var products []*big.Int
			for i := range a {
				products = append(products, down(new(big.Int).Mul(whole(a[i]), whole(b[i])), frac))
			}
			got, want := one(vec.Dot(a, b, frac)), added(products...)
			if !got.is(want) {
				t.Errorf("Dot(%v, %v, %d): got %v, not %v", a, b, frac, got, want)
			}
			if got.e == api.OK && len(a) > 1 {
				fine++
			}
		}
	}
	if fine == 0 {
		t.Error("all goes over")
	}
}

// P2.2: a vector by a number, held against numbers without end.
func TestScaledIsAsWithoutEnd(t *testing.T) {
	for _, p := range pairs() {
		y, x := p[0], p[1]
		for _, by := range l(0, 1, -1, 5, 1<<16, -1<<30, 1<<40, top, low) {
			for _, frac := range []int{0, 3, 30} {
				var scaled, more []*big.Int
				for i := range x {
					n := down(new(big.Int).Mul(whole(x[i]), whole(by)), frac)
					scaled = append(scaled, n)
					more = append(more, new(big.Int).Add(whole(y[i]), n))
				}
				want := placed(scaled...)
				if got := of(vec.Scale(x, by, frac)); !got.is(want) {
					t.Errorf("Scale(%v, %d, %d): got %v, not %v", x, by, frac, got, want)
				}
				if want.e == api.OK {
					want = placed(more...)
				}
				if got := of(vec.More(y, by, x, frac)); !got.is(want) {
					t.Errorf("More(%v, %d, %v, %d): got %v, not %v", y, by, x, frac, got, want)
				}
			}
		}
	}
}

// P2.3: how great a vector is, held against numbers without end.
func TestSizesAreAsWithoutEnd(t *testing.T) {
	for _, v := range vectors() {
		var sizes []*big.Int
		for _, n := range v {
			sizes = append(sizes, new(big.Int).Abs(whole(n)))
		}
		if got, want := one(vec.Size(v...)), added(sizes...); !got.is(want) {
			t.Errorf("Size(%v): got %v, not %v", v, got, want)
		}
		want := placed(sizes...)
		if want.e == api.OK {
			want = good(slices.Max(append(want.v, 0)))
		} else {
			want = badOne(want.e)
		}
		if got := one(vec.Most(v...)); !got.is(want) {
			t.Errorf("Most(%v): got %v, not %v", v, got, want)
		}
	}
}

// P2.4: a sum is that of Add, one after the other.
func TestSumAddsOneAfterTheOther(t *testing.T) {
	all := vectors()
	fine, over := 0, 0
	for i := range all {
		for many := range 5 {
			var l [][]int64
			for k := range many {
				l = append(l, all[(i+6*k)%len(all)])
			}
			want := good()
			for k, v := range l {
				switch {
				case k == 0:
					want = good(v...)
				case want.e == api.OK:
					want = of(vec.Add(want.v, v))
				}
			}
			got := of(vec.Sum(l...))
			if !got.is(want) {
				t.Errorf("Sum(%v): got %v, not %v", l, got, want)
			}
			switch got.e {
			case api.OK:
				fine++
			case api.ErrOver:
				over++
			}
		}
	}
	if fine == 0 || over == 0 {
		t.Errorf("%d sums, %d go over", fine, over)
	}
}

// P2.5: what was added is taken away again.
func TestWhatWasAddedIsTakenAway(t *testing.T) {
	sums, rests := 0, 0
	for _, p := range pairs() {
		a, b := p[0], p[1]
		if sum, e := vec.Add(a, b); e == api.OK {
			sums++
			if got := of(vec.Sub(sum, b)); !got.is(good(a...)) {
				t.Errorf("Sub(Add(%v, %v), %v): got %v", a, b, b, got)
			}
		}
		if rest, e := vec.Sub(a, b); e == api.OK {
			rests++
			if got := of(vec.Add(rest, b)); !got.is(good(a...)) {
				t.Errorf("Add(Sub(%v, %v), %v): got %v", a, b, b, got)
			}
		}
	}
	if sums == 0 || rests == 0 {
		t.Errorf("%d sums, %d differences", sums, rests)
	}
}

// P2.5: no number is greater than Most, nor Most than Size.
func TestNoneIsGreaterThanMostNorMostThanSize(t *testing.T) {
	mosts, sizes := 0, 0
	for _, v := range vectors() {
		most, e := vec.Most(v...)
		if e != api.OK {
			continue
		}
		mosts++
		for _, n := range v {
			if n > most || n < -most {
				t.Errorf("Most(%v): got %d", v, most)
			}
		}
		if got := of(vec.Clip(v, most)); !got.is(good(v...)) {
			t.Errorf("Clip(%v, %d): got %v", v, most, got)
		}
		if size, e := vec.Size(v...); e == api.OK {
			sizes++
			if most > size {
				t.Errorf("Most(%v) is %d, Size %d", v, most, size)
			}
		}
	}
	if mosts == 0 || sizes == 0 {
		t.Errorf("%d of Most, %d of Size", mosts, sizes)
	}
}
