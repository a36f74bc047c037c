package topk_test

import (
	"math/big"
	"slices"
	"testing"

	"thrum/api"
	"thrum/topk"
)

// chance are numbers that look like it; others for another seed.
type chance uint64

func (c *chance) next() uint64 {
	*c = *c*6364136223846793005 + 1442695040888963407
	return uint64(*c >> 11)
}

// number is one of at most so many bits, or fewer, of either sign: with few bits there are many of one size.
func (c *chance) number(bits uint64) int64 {
	return int64(c.next()<<11|c.next()%2048) >> (64 - bits + c.next()%bits)
}

func (c *chance) numbers(n int) []int64 {
	v := make([]int64, n)
	bits := list(2, 3, 4, 8, 33, 64)[c.next()%6]
	for i := range v {
		v[i] = c.number(uint64(bits))
	}
	return v
}

// vectors are many, short and long.
func vectors() [][]int64 {
	c := chance(9)
	l := [][]int64{nil}
	for n := range 30 {
		for range 6 {
			l = append(l, c.numbers(n+1))
		}
	}
	return append(l, c.numbers(100), c.numbers(255), c.numbers(256), c.numbers(257))
}

// sizeByWords is a number without its sign, of whatever size.
func sizeByWords(n int64) *big.Int { return new(big.Int).Abs(big.NewInt(n)) }

// aheadByWords tells whether a place is ahead of another one, as the chapter's words tell it.
func aheadByWords(v []int64, a, b int) bool {
	if held := sizeByWords(v[a]).Cmp(sizeByWords(v[b])); held != 0 {
		return held > 0
	}
	return a < b
}

// orderByWords is each place where as many stand ahead of it as are ahead of it.
func orderByWords(v []int64) []int {
	l := make([]int, len(v))
	for at := range v {
		ahead := 0
		for other := range v {
			if aheadByWords(v, other, at) {
				ahead++
			}
		}
		l[ahead] = at
	}
	return l
}

// P9.1, P9.2: orders, what is picked, and what is pressed are as the words tell them.
func TestAllIsAsTheWordsTell(t *testing.T) {
	for _, v := range vectors() {
		order := orderByWords(v)
		if got := of(topk.Order(v...)); !got.is(good(order...)) {
			t.Fatalf("Order(%v): got %v, not %v", v, got, order)
		}
		for k := range len(v) + 1 {
			want := slices.Sorted(slices.Values(order[:k]))
			if got := of(topk.Pick(k, v...)); !got.is(good(want...)) {
				t.Fatalf("Pick(%d, %v): got %v, not %v", k, v, got, want)
			}
			if len(v) > 0 {
				checkPressed(t, k, v, want)
			}
		}
	}
}

func checkPressed(t *testing.T, k int, v []int64, l []int) {
	t.Helper()
	want := top(len(v), l)
	for _, at := range l {
		want.V = append(want.V, v[at])
	}
	got, e := topk.Press(k, v...)
	if !same(got, want) || e != api.OK || !topk.Is(k, v, want) {
		t.Fatalf("Press(%d, %v): got %v, %d, not %v", k, v, got, e, want)
	}
	if k > 0 {
		want.V[k-1]++
		if topk.Is(k, v, want) {
			t.Fatalf("Is(%d, %v, %v)", k, v, want)
		}
	}
}

// P9.2: the least size is as the words tell it, of whatever places.
func TestLeastIsAsTheWordsTell(t *testing.T) {
	c := chance(5)
	for _, v := range vectors() {
		for range 8 {
			l := make([]int, c.next()%6)
			for i := range l {
				l[i] = int(c.next()%uint64(len(v)+4)) - 2
			}
			var want *big.Int
			for _, at := range l {
				if at >= 0 && at < len(v) && (want == nil || sizeByWords(v[at]).Cmp(want) < 0) {
					want = sizeByWords(v[at])
				}
			}
			got, is := topk.Least(l, v)
			if is != (want != nil) || !is && got != 0 || is && got != want.Uint64() {
				t.Fatalf("Least(%v, %v): got %d, %t, not %v", l, v, got, is, want)
			}
		}
	}
}

// P9.3: no number that is left out is of a greater size than one that is picked.
func TestNoneLeftOutIsGreater(t *testing.T) {
	for _, v := range vectors() {
		for k := 1; k <= len(v); k++ {
			l, _ := topk.Pick(k, v...)
			least, is := topk.Least(l, v)
			if !is || len(l) != k {
				t.Fatalf("%d of %v: got %v", k, v, l)
			}
			for at, n := range v {
				if !slices.Contains(l, at) && sizeByWords(n).Cmp(new(big.Int).SetUint64(least)) > 0 {
					t.Fatalf("%d of %v: got %v, without %d", k, v, l, at)
				}
			}
		}
	}
}

// P9.3: with one more, those that were picked are picked, too.
func TestWithOneMoreTheOthersAreToo(t *testing.T) {
	for _, v := range vectors() {
		for k := range v {
			l, e := topk.Pick(k, v...)
			more, f := topk.Pick(k+1, v...)
			if e != api.OK || f != api.OK || len(more) != len(l)+1 || slices.ContainsFunc(l, func(at int) bool { return !slices.Contains(more, at) }) {
				t.Fatalf("%v: %d are %v, %d; one more %v, %d", v, k, l, e, more, f)
			}
		}
	}
}

// greater is a number of the same sign and of the next size, and whether there is one.
func greater(n int64) (int64, bool) {
	switch {
	case n == low || n == most:
		return n, false
	case n < 0:
		return n - 1, true
	}
	return n + 1, true
}

// P9.3: of a number that is made greater the place is picked, if it was.
func TestMadeGreaterItIsPickedToo(t *testing.T) {
	for _, v := range vectors()[:120] {
		for k := 1; k <= len(v); k++ {
			l, _ := topk.Pick(k, v...)
			for _, at := range l {
				checkPicked(t, k, v, at)
			}
		}
	}
}

// checkPicked tells when a place is not picked after its number is made greater: a little, or as great as it may be, of either sign.
func checkPicked(t *testing.T, k int, v []int64, at int) {
	t.Helper()
	next, is := greater(v[at])
	for _, n := range vector(next, -next, low) {
		if !is {
			continue
		}
		with := slices.Clone(v)
		with[at] = n
		if l, e := topk.Pick(k, with...); !slices.Contains(l, at) || e != api.OK {
			t.Fatalf("%d of %v, with %d at %d: got %v, %d", k, v, n, at, l, e)
		}
	}
}
