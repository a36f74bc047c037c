package draw_test

import (
	"math"
	"slices"
	"testing"

	"thrum/api"
	"thrum/draw"
)

// ordered is an order, as another program works it out.
type ordered struct {
	seed uint64
	n    []int
	want []int
}

func allOrdered() []ordered {
	return []ordered{
		{7, list(1), nil},
		{7, list(1), list(0)},
		{most, nil, list(0)},
		{9, list(4), list(1, 0)},
		{9, list(5), list(0, 1)},
		{0, nil, list(2, 1, 0, 3, 4)},
		{7, list(1), list(2, 4, 0, 3, 7, 5, 1, 6)},
		{7, list(2), list(7, 6, 2, 5, 3, 0, 4, 1)},
		{8, list(1), list(3, 1, 5, 2, 7, 6, 4, 0)},
		{most, list(-1, low), list(6, 1, 2, 9, 7, 4, 3, 5, 0, 8)},
		{3, list(5, 6), list(10, 6, 0, 4, 1, 2, 3, 9, 8, 11, 5, 7)},
		{1, list(2, 3), list(13, 1, 11, 4, 3, 5, 12, 15, 0, 2, 8, 10, 9, 7, 14, 6)},
	}
}

// P8.2: Order.
func TestOrder(t *testing.T) {
	for _, x := range allOrdered() {
		if got, e := draw.Order(len(x.want), x.seed, x.n...); !slices.Equal(got, x.want) || e != api.OK {
			t.Errorf("Order(%d, %d, %v): got %v, %d, not %v", len(x.want), x.seed, x.n, got, e, x.want)
		}
	}
}

// P8.2: the longest order.
func TestLongestOrder(t *testing.T) {
	got, e := draw.Order(4096, 7, 1)
	if len(got) != 4096 || e != api.OK {
		t.Fatalf("got %d numbers, %d", len(got), e)
	}
	// What another program makes of all of them, in order.
	sum := 0
	for _, x := range got {
		sum = (sum*31 + x) % (1 << 58)
	}
	first, last := list(2894, 2919, 1974, 1037, 134, 1823, 3170, 2796), list(1583, 0, 3826, 3394, 2983, 3043, 3422, 1836)
	if !slices.Equal(got[:8], first) || !slices.Equal(got[4088:], last) || sum != 114177134552725148 {
		t.Errorf("got %v, .. %v, with a sum of %d", got[:8], got[4088:], sum)
	}
}

// P8.2: Pick, of all that may be picked.
func TestPick(t *testing.T) {
	for _, x := range allOrdered() {
		for many := range len(x.want) + 1 {
			if got, e := draw.Pick(many, len(x.want), x.seed, x.n...); !slices.Equal(got, x.want[:many]) || e != api.OK {
				t.Errorf("Pick(%d, %d, %d, %v): got %v, %d, not %v", many, len(x.want), x.seed, x.n, got, e, x.want[:many])
			}
		}
	}
}

// P8.2: Pick of the longest order.
func TestPickOfTheLongest(t *testing.T) {
	want := list(2894, 2919, 1974, 1037, 134, 1823, 3170, 2796)
	for many := range 9 {
		if got, e := draw.Pick(many, 4096, 7, 1); !slices.Equal(got, want[:many]) || e != api.OK {
			t.Errorf("%d: got %v, %d", many, got, e)
		}
	}
	if got, e := draw.Pick(4096, 4096, 7, 1); len(got) != 4096 || !slices.Equal(got[:8], want) || e != api.OK {
		t.Errorf("all: got %d numbers, %d", len(got), e)
	}
}

// P8.2: Order's errors.
func TestOrderErrors(t *testing.T) {
	for many, want := range map[int]api.Errno{
		-1: api.ErrArg, -2: api.ErrArg, -4097: api.ErrArg, low: api.ErrArg,
		4097: api.ErrLong, 1 << 20: api.ErrLong, math.MaxInt32: api.ErrLong, top: api.ErrLong,
	} {
		for _, n := range [][]int{nil, list(0), list(5, -6)} {
			if got, e := draw.Order(many, 3, n...); len(got) != 0 || e != want {
				t.Errorf("Order(%d, 3, %v): got %d numbers, %d, not %d", many, n, len(got), e, want)
			}
		}
	}
}

// P8.2: Pick's errors, and their order.
func TestPickErrors(t *testing.T) {
	for _, x := range []struct {
		many, of int
		want     api.Errno
	}{
		{-1, 0, api.ErrArg},
		{-1, 5, api.ErrArg},
		{low, 5, api.ErrArg},
		{1, 0, api.ErrArg},
		{6, 5, api.ErrArg},
		{top, 5, api.ErrArg},
		{4097, 4096, api.ErrArg},
		// Of fewer than none there is nothing to be picked, not even that.
		{0, -1, api.ErrArg},
		{-1, -1, api.ErrArg},
		{-2, -1, api.ErrArg},
		{-1, -2, api.ErrArg},
		{low, low, api.ErrArg},
		{top, low, api.ErrArg},
		// Of too many: how many are picked is asked first.
		{-1, 4097, api.ErrArg},
		{4098, 4097, api.ErrArg},
		{low, top, api.ErrArg},
		{0, 4097, api.ErrLong},
		{1, 4097, api.ErrLong},
		{4096, 4097, api.ErrLong},
		{4097, 4097, api.ErrLong},
		{0, top, api.ErrLong},
		{top, top, api.ErrLong},
	} {
		for _, n := range [][]int{nil, list(0), list(5, -6)} {
			if got, e := draw.Pick(x.many, x.of, 3, n...); len(got) != 0 || e != x.want {
				t.Errorf("Pick(%d, %d, 3, %v): got %d numbers, %d, not %d", x.many, x.of, n, len(got), e, x.want)
			}
		}
	}
}
