package table_test

import (
	"math/big"
	"slices"
	"strconv"
	"strings"
	"testing"

	"thrum/api"
	"thrum/table"
)

// chance are numbers that look like it; others for another seed.
type chance uint64

func (c *chance) next() uint64 {
	*c = *c*6364136223846793005 + 1442695040888963407
	return uint64(*c >> 11)
}

// number is one of at most so many bits, or fewer.
func (c *chance) number(bits uint64) uint64 {
	return (c.next()<<11 | c.next()%2048) >> (64 - bits + c.next()%bits)
}

// size is one that has a place with a sign, often next to what has a last bit or a first one in a row.
func (c *chance) size() int64 {
	n := int64(c.number(63))
	switch c.next() % 3 {
	case 0:
		return n >> 26 << 26
	case 1:
		return n % (40 << 30)
	}
	return n
}

// numbers are some that are not too far from one another, one of them far from 0.
func (c *chance) numbers(n int) []int64 {
	bits := []uint64{1, 3, 6, 20, 31, 34, 40, 61}[c.next()%8]
	off := int64(c.number(62)) - 1<<61
	z := make([]int64, n)
	for i := range z {
		z[i] = off + int64(c.number(bits))
	}
	return z
}

// isRoot tells whether a number is the greatest one whose square is not above n, in numbers without end.
func isRoot(root, n uint64) bool {
	square := func(k *big.Int) *big.Int { return new(big.Int).Mul(k, k) }
	is := new(big.Int).SetUint64(root)
	next := new(big.Int).Add(is, big.NewInt(1))
	whole := new(big.Int).SetUint64(n)
	return square(is).Cmp(whole) <= 0 && square(next).Cmp(whole) > 0
}

func checkRoot(t *testing.T, n uint64) {
	t.Helper()
	if got := table.Root(n); !isRoot(got, n) {
		t.Errorf("Root(%d): got %d", n, got)
	}
}

// P13.1: roots of small numbers, each of them.
func TestSmallRoots(t *testing.T) {
	for n := range uint64(100000) {
		checkRoot(t, n)
	}
}

// P13.1: roots next to squares, where a fraction is rounded over the edge: numbers of any size, the greatest ones, and ones around powers of two.
func TestRootsNextToSquares(t *testing.T) {
	c := chance(4)
	var l []uint64
	for range 100000 {
		l = append(l, c.number(32))
	}
	for i := range uint64(100000) {
		l = append(l, 1<<32-1-i)
	}
	for bit := range 32 {
		l = append(l, 1<<bit-1, 1<<bit, 1<<bit+1)
	}
	for _, k := range l {
		square := k * k
		checkRoot(t, square)
		checkRoot(t, square+1)
		checkRoot(t, square+2*k)
		if k > 0 {
			checkRoot(t, square-1)
		}
	}
}

// P13.1: roots of numbers of any size, of the greatest ones, and of ones around powers of two.
func TestRootsOfAnySize(t *testing.T) {
	c := chance(9)
	for i := range uint64(100000) {
		checkRoot(t, c.number(64))
		checkRoot(t, most-i)
	}
	for bit := range 64 {
		for off := range uint64(40) {
			checkRoot(t, 1<<bit+off-20)
		}
	}
}

// middle is the root of two numbers' product, in numbers without end.
func middle(a, b uint64) uint64 {
	product := new(big.Int).Mul(new(big.Int).SetUint64(a), new(big.Int).SetUint64(b))
	return product.Sqrt(product).Uint64()
}

// P13.1: each row is as the words tell it, row by row; row 0 and row 16 are what all others are made from.
func TestRowsAreAsTheWordsTell(t *testing.T) {
	l := table.Rows()
	if len(l) != 17 || l[0] != 1<<30 || l[16] != 1<<29 {
		t.Fatalf("got %v", l)
	}
	for row, between := range map[int][2]int{
		8: {0, 16},
		4: {0, 8}, 12: {8, 16},
		2: {0, 4}, 6: {4, 8}, 10: {8, 12}, 14: {12, 16},
		1: {0, 2}, 3: {2, 4}, 5: {4, 6}, 7: {6, 8}, 9: {8, 10}, 11: {10, 12}, 13: {12, 14}, 15: {14, 16},
	} {
		if want := middle(l[between[0]], l[between[1]]); l[row] != want {
			t.Errorf("%d: got %d, not %d", row, l[row], want)
		}
	}
}

// P13.4: rows fall.
func TestRowsFall(t *testing.T) {
	l := table.Rows()
	for i := range len(l) - 1 {
		if l[i] <= l[i+1] {
			t.Errorf("%d: got %d ahead of %d", i, l[i], l[i+1])
		}
	}
}

// powerByWords is a power as the words tell it, of digits that are written out: those ahead of the point, and the first four behind it.
func powerByWords(x int64, frac int) int64 {
	digits := new(big.Int).Neg(big.NewInt(x)).Text(2)
	digits = strings.Repeat("0", max(0, frac+1-len(digits))) + digits
	ahead, behind := digits[:len(digits)-frac], digits[len(digits)-frac:]+"0000"
	whole, _ := new(big.Int).SetString(ahead, 2)
	row, _ := strconv.ParseInt(behind[:4], 2, 64)
	n := tableRows()[row]
	for range min(whole.Uint64(), 100) {
		n /= 2
	}
	for range 30 - frac {
		n /= 2
	}
	return int64(n)
}

// P13.2: powers are as the words tell them, of small sizes, each of them, and of all others.
func TestPowersAreAsTheWordsTell(t *testing.T) {
	c := chance(6)
	for frac := range api.MaxFrac + 1 {
		for i := range int64(3000) {
			for _, x := range list(-i, -c.size(), -(1<<frac)*(i%40)-i/40, -(1<<frac)*(i%40)+i/40) {
				if x > 0 {
					continue
				}
				want := powerByWords(x, frac)
				if got, e := table.Exp(x, frac); got != want || e != api.OK {
					t.Fatalf("Exp(%d, %d): got %d, %d, not %d", x, frac, got, e, want)
				}
			}
		}
	}
}

// P13.4: a greater number's power is no less, and that of one less by a whole is half of it, down.
func TestPowersRiseAndHalve(t *testing.T) {
	c := chance(7)
	for frac := range api.MaxFrac + 1 {
		for range 4000 {
			x := -c.size() / 2
			less := x - int64(c.number(1+uint64(frac)))
			p, e := table.Exp(x, frac)
			q, f := table.Exp(less, frac)
			if e != api.OK || f != api.OK || q > p || p < 0 || p > 1<<frac {
				t.Fatalf("Exp(%d, %d): got %d, %d; of %d: %d, %d", x, frac, p, e, less, q, f)
			}
			if half, e := table.Exp(x-1<<frac, frac); half != p/2 || e != api.OK {
				t.Fatalf("Exp(%d, %d): got %d; one less: %d, %d", x, frac, p, half, e)
			}
		}
	}
}

// sharesByWords are shares as the words tell them, in numbers without end.
func sharesByWords(frac int, z []int64) []int64 {
	sum := new(big.Int)
	var powers []*big.Int
	for _, n := range z {
		p := big.NewInt(powerByWords(n-slices.Max(z), frac))
		powers = append(powers, p)
		sum.Add(sum, p)
	}
	var shares []int64
	for _, p := range powers {
		share := new(big.Int).Lsh(p, uint(frac))
		shares = append(shares, share.Div(share, sum).Int64())
	}
	return shares
}

// P13.3: places and shares are as the words tell them.
func TestSharesAreAsTheWordsTell(t *testing.T) {
	c := chance(8)
	for frac := range api.MaxFrac + 1 {
		for range 200 {
			z := c.numbers(1 + int(c.next()%12))
			if got, e := table.Best(z...); got != slices.Index(z, slices.Max(z)) || e != api.OK {
				t.Fatalf("Best(%v): got %d, %d", z, got, e)
			}
			want := sharesByWords(frac, z)
			if got, e := table.Soft(frac, z...); !slices.Equal(got, want) || e != api.OK {
				t.Fatalf("Soft(%d, %v): got %v, %d, not %v", frac, z, got, e, want)
			}
		}
	}
}

// P13.3: the error of any numbers is as the words tell it: of small numbers of bits, some too few or too many.
func TestErrorsAreAsTheWordsTell(t *testing.T) {
	c := chance(12)
	fine, over := 0, 0
	edges := list(low, low+1, -1<<62-1, -1<<62, -1, 0, 1, 1<<62-1, 1<<62, top-1, top)
	for range 20000 {
		z := make([]int64, 1+c.next()%3)
		for i := range z {
			z[i] = edges[c.next()%uint64(len(edges))]
		}
		frac := int(c.next()%33) - 1
		want := errorByWords(frac, z)
		got, e := table.Soft(frac, z...)
		if e != want || (e == api.OK) != (len(got) == len(z)) || e != api.OK && len(got) != 0 {
			t.Fatalf("Soft(%d, %v): got %v, %d, not %d", frac, z, got, e, want)
		}
		switch e {
		case api.OK:
			fine++
		case api.ErrOver:
			over++
		}
	}
	if fine < 2000 || over < 2000 {
		t.Errorf("%d are fine, %d go over", fine, over)
	}
}

// errorByWords is what is wrong with some numbers, that are neither none nor too many.
func errorByWords(frac int, z []int64) api.Errno {
	if frac < 0 || frac > 30 {
		return api.ErrArg
	}
	greatest := big.NewInt(slices.Max(z))
	for _, n := range z {
		less := new(big.Int).Sub(big.NewInt(n), greatest)
		if !less.IsInt64() || less.Int64() == low {
			return api.ErrOver
		}
	}
	return api.OK
}

// P13.4: shares are together no more than 1, and less than it by fewer than as many as there are; a greater number's share is no less.
func TestSharesAreNearlyTheWhole(t *testing.T) {
	c := chance(10)
	for frac := range api.MaxFrac + 1 {
		for i := range 120 {
			n := 1 + int(c.next()%20)
			if i == 0 {
				n = api.MaxDim
			}
			z := c.numbers(n)
			l, e := table.Soft(frac, z...)
			if len(l) != n || e != api.OK {
				t.Fatalf("Soft(%d, %v): got %v, %d", frac, z, l, e)
			}
			sum := int64(0)
			for at, share := range l {
				sum += share
				next := (at + 1) % n
				if share < 0 || z[at] > z[next] && share < l[next] || z[at] == z[next] && share != l[next] {
					t.Fatalf("Soft(%d, %v): got %v", frac, z, l)
				}
			}
			if sum > 1<<frac || sum <= 1<<frac-int64(n) {
				t.Fatalf("Soft(%d, %v): got %v, together %d", frac, z, l, sum)
			}
		}
	}
}

// P13.4: all numbers greater by the same have the same shares.
func TestSharesOfNumbersGreaterByTheSame(t *testing.T) {
	c := chance(11)
	for frac := range api.MaxFrac + 1 {
		for range 200 {
			z := c.numbers(1 + int(c.next()%9))
			want, e := table.Soft(frac, z...)
			off := int64(c.number(61))
			for _, by := range list(off, -off, 1, -1, top-slices.Max(z), low-slices.Min(z)) {
				moved := slices.Clone(z)
				for i := range moved {
					moved[i] += by
				}
				if got, f := table.Soft(frac, moved...); !slices.Equal(got, want) || e != api.OK || f != api.OK {
					t.Fatalf("Soft(%d, %v): got %v, %d; greater by %d: %v, %d", frac, z, want, e, by, got, f)
				}
			}
		}
	}
}
