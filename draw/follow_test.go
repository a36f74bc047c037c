package draw_test

import (
	"math/big"
	"slices"
	"testing"

	"thrum/api"
	"thrum/draw"
)

// around is 2^64, where numbers go around.
var around = new(big.Int).Lsh(big.NewInt(1), 64)

// number is a number of any size, gone around.
func number(n *big.Int) *big.Int { return new(big.Int).Mod(n, around) }

// turned is x times a number, gone around, and turned by itself halved so many times.
func turned(x *big.Int, times uint64, halved uint) *big.Int {
	x = number(new(big.Int).Mul(x, new(big.Int).SetUint64(times)))
	return new(big.Int).Xor(x, new(big.Int).Rsh(x, halved))
}

// byWords is the draw as the chapter's words tell it, in numbers that do not go around by themselves.
func byWords(seed uint64, n ...int) uint64 {
	x := new(big.Int).SetUint64(seed)
	for _, k := range n {
		x.Xor(x, number(big.NewInt(int64(k))))
		x = turned(x, 0x9e3779b97f4a7c15, 29)
	}
	return turned(x, 0xbf58476d1ce4e5b9, 32).Uint64()
}

// orderByWords is an order as the chapter's words tell it.
func orderByWords(many int, seed uint64, n ...int) []int {
	var l []int
	for i := range many {
		l = append(l, i)
	}
	for i := many - 1; i >= 1; i-- {
		with := byWords(seed, append(slices.Clone(n), i)...) % uint64(i+1)
		l[i], l[with] = l[with], l[i]
	}
	return l
}

// seeds are some, with both ends, and numbers is what is drawn for: none, one, and many.
func seeds() []uint64 {
	l := []uint64{0, 1, 2, 3, 1<<31 - 1, 1 << 32, 1<<63 - 1, 1 << 63, most - 1, most}
	for i := range uint64(10) {
		l = append(l, byWords(i, 77))
	}
	return l
}

func numbers() [][]int {
	l := [][]int{nil, {}, {0}, {1}, {-1}, {top}, {low}, {0, 0}, {1, -1}, {-1, 1}, {low, top}, {0, 0, 0}, {63, 1 << 30, 4095}}
	for n := range 12 {
		var some []int
		for i := range n {
			some = append(some, int(byWords(5, n, i)))
		}
		l = append(l, some)
	}
	return l
}

// P8.1: draws are as the words tell them.
func TestDrawsAreAsTheWordsTell(t *testing.T) {
	for _, seed := range seeds() {
		for _, n := range numbers() {
			want := byWords(seed, n...)
			if got := draw.At(seed, n...); got != want {
				t.Errorf("At(%d, %v): got %x, not %x", seed, n, got, want)
			}
			for _, most := range []uint64{1, 2, 3, 7, 64, 1000, 1<<30 + 1, 1 << 63, most - 1, most} {
				if got := of(draw.Below(most, seed, n...)); got != good(want%most) {
					t.Errorf("Below(%d, %d, %v): got %v, not %d", most, seed, n, got, want%most)
				}
			}
		}
	}
}

// P8.1: what is drawn below something is below it, and Chance tells whether it is below the part.
func TestChanceIsWhetherWhatIsDrawnIsBelow(t *testing.T) {
	for whole := range uint64(40) {
		for part := range uint64(45) {
			for seed := range uint64(20) {
				got := of(draw.Chance(part, whole, seed, 3, -4))
				if whole == 0 || part > whole {
					if got != bad[bool](api.ErrArg) {
						t.Errorf("Chance(%d, %d, %d): got %v", part, whole, seed, got)
					}
					continue
				}
				drawn, e := draw.Below(whole, seed, 3, -4)
				if e != api.OK || drawn >= whole || got != good(drawn < part) {
					t.Errorf("Chance(%d, %d, %d): got %v, where %d is drawn, %d", part, whole, seed, got, drawn, e)
				}
			}
		}
	}
}

// P8.3: of no part there is no chance, of the whole it is sure, whatever it is for.
func TestNoChanceAndASureOne(t *testing.T) {
	for _, seed := range seeds() {
		for _, n := range numbers() {
			for _, whole := range []uint64{1, 2, 3, 10, 64, 1 << 32, 1 << 63, most - 1, most} {
				if got := of(draw.Chance(0, whole, seed, n...)); got != good(false) {
					t.Errorf("none of %d, %d, %v: got %v", whole, seed, n, got)
				}
				if got := of(draw.Chance(whole, whole, seed, n...)); got != good(true) {
					t.Errorf("all of %d, %d, %v: got %v", whole, seed, n, got)
				}
			}
		}
	}
}

// P8.1, P8.3: of 1 there is 0 alone, whatever it is for.
func TestBelowOneIsZero(t *testing.T) {
	for _, seed := range seeds() {
		for _, n := range numbers() {
			if got := of(draw.Below(1, seed, n...)); got != good[uint64](0) {
				t.Errorf("%d, %v: got %v", seed, n, got)
			}
		}
	}
}

// P8.2: orders are as the words tell them, of each length, and picked are their first ones.
func TestOrdersAreAsTheWordsTell(t *testing.T) {
	for many := range 40 {
		for i, n := range numbers() {
			checkOrder(t, many, seeds()[i%len(seeds())], n)
		}
	}
	for _, many := range []int{255, 256, 257, 1000, 4095, 4096} {
		checkOrder(t, many, uint64(many), nil)
		checkOrder(t, many, most, list(63, 1<<30, -1))
	}
}

func checkOrder(t *testing.T, many int, seed uint64, n []int) {
	t.Helper()
	want := orderByWords(many, seed, n...)
	got, e := draw.Order(many, seed, n...)
	if !slices.Equal(got, want) || e != api.OK {
		t.Errorf("Order(%d, %d, %v): got %v, %d, not %v", many, seed, n, got, e, want)
	}
	for _, some := range []int{0, many / 3, many / 2, max(many-1, 0), many} {
		if got, e := draw.Pick(some, many, seed, n...); !slices.Equal(got, want[:some]) || e != api.OK {
			t.Errorf("Pick(%d, %d, %d, %v): got %v, %d, not %v", some, many, seed, n, got, e, want[:some])
		}
	}
}

// P8.3: an order has each number once.
func TestAnOrderHasEachNumberOnce(t *testing.T) {
	for many := range 70 {
		for seed := range uint64(30) {
			checkOnce(t, many, seed)
		}
	}
	checkOnce(t, 4095, 5)
	checkOnce(t, 4096, 6)
}

func checkOnce(t *testing.T, many int, seed uint64) {
	t.Helper()
	l, e := draw.Order(many, seed, 8, -9)
	if len(l) != many || e != api.OK {
		t.Fatalf("Order(%d, %d): got %v, %d", many, seed, l, e)
	}
	for n, x := range slices.Sorted(slices.Values(l)) {
		if x != n {
			t.Fatalf("Order(%d, %d): got %v", many, seed, l)
		}
	}
}

// P8.3: a draw hangs on nothing else: not on what was drawn ahead of it.
func TestADrawHangsOnNothingElse(t *testing.T) {
	first := draw.At(3, 5, 6)
	order, _ := draw.Order(50, 3, 5)
	for seed := range uint64(50) {
		draw.At(seed, 1)
		draw.Below(seed, seed)
		draw.Chance(1, 2, seed)
		draw.Order(60, seed)
		draw.Pick(9, 5000, seed)
		if got := draw.At(3, 5, 6); got != first || got != byWords(3, 5, 6) {
			t.Errorf("got %x, was %x", got, first)
		}
		if got, e := draw.Order(50, 3, 5); !slices.Equal(got, order) || e != api.OK {
			t.Errorf("got %v, %d, was %v", got, e, order)
		}
	}
}

// P8.1: a draw hangs on the seed, on each of the numbers, on their order, and on how many they are.
func TestADrawHangsOnAllOfThem(t *testing.T) {
	l := []uint64{
		draw.At(3, 5, 6, 7), draw.At(4, 5, 6, 7), draw.At(3, 4, 6, 7), draw.At(3, 5, 9, 7), draw.At(3, 5, 6, 8),
		draw.At(3, 6, 5, 7), draw.At(3, 5, 7, 6), draw.At(3, 7, 6, 5), draw.At(3, 5, 6), draw.At(3, 6, 7), draw.At(3, 5, 6, 7, 0), draw.At(3, 0, 5, 6, 7),
	}
	slices.Sort(l)
	if len(slices.Compact(slices.Clone(l))) != len(l) {
		t.Errorf("got %x", l)
	}
}
