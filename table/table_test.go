package table_test

import (
	"math"
	"slices"
	"testing"

	"thrum/api"
	"thrum/table"
)

const (
	top  = math.MaxInt64
	low  = math.MinInt64
	most = math.MaxUint64
)

// list is numbers as they are written.
func list(z ...int64) []int64 { return z }

// P13.1: Root.
func TestRoot(t *testing.T) {
	const greatest = 1<<32 - 1
	for n, want := range map[uint64]uint64{
		0: 0, 1: 1, 2: 1, 3: 1, 4: 2, 5: 2, 8: 2, 9: 3, 15: 3, 16: 4, 24: 4, 25: 5, 99: 9, 100: 10,
		1<<20 - 1: 1023, 1 << 20: 1024, 1 << 21: 1448, 1 << 59: 759250124, 1 << 60: 1 << 30, 1<<60 - 1: 1<<30 - 1,
		1<<53 - 1: 94906265, 1 << 53: 94906265, 1<<53 + 1: 94906265, 1<<52 - 1: 1<<26 - 1, 1 << 52: 1 << 26,
		1<<62 - 1: 1<<31 - 1, 1 << 62: 1 << 31, 1<<63 - 1: 3037000499, 1 << 63: 3037000499,
		3037000500*3037000500 - 1: 3037000499, 3037000500 * 3037000500: 3037000500,
		greatest*greatest - 1: greatest - 1, greatest * greatest: greatest, greatest*greatest + 1: greatest,
		(greatest - 1) * (greatest - 1): greatest - 1, (greatest-1)*(greatest-1) - 1: greatest - 2,
		most - 1: greatest, most: greatest,
	} {
		if got := table.Root(n); got != want {
			t.Errorf("Root(%d): got %d, not %d", n, got, want)
		}
	}
}

// tableRows are the rows, as another program works them out.
func tableRows() []uint64 {
	return []uint64{
		1073741824, 1028218692, 984625593, 942880698,
		902905650, 864625412, 827968131, 792864998,
		759250124, 727060409, 696235433, 666717334,
		638450707, 611382491, 585461880, 560640217,
		536870912,
	}
}

// P13.1: Rows.
func TestRows(t *testing.T) {
	if got := table.Rows(); !slices.Equal(got, tableRows()) {
		t.Errorf("got %v", got)
	}
}

// power is a power of x with frac bits behind the point, as another program works it out.
type power struct {
	x    int64
	frac int
	want int64
}

// fewBits are powers of numbers with no more bits behind the point than tell a row.
func fewBits() []power {
	return []power{
		{0, 0, 1},
		{-1, 0, 0},
		{-2, 0, 0},
		{-3, 0, 0},
		{0, 1, 2},
		{-1, 1, 1},
		{-2, 1, 1},
		{-3, 1, 0},
		{-4, 1, 0},
		{0, 2, 4},
		{-1, 2, 3},
		{-2, 2, 2},
		{-3, 2, 2},
		{-4, 2, 2},
		{-1, 3, 7},
		{-3, 3, 6},
		{-7, 3, 4},
		{-8, 3, 4},
		{0, 4, 16},
		{-1, 4, 15},
		{-2, 4, 14},
		{-8, 4, 11},
		{-15, 4, 8},
		{-16, 4, 8},
		{-17, 4, 7},
		{-31, 4, 4},
		{-100, 4, 0},
		{-1 << 62, 0, 0},
		{low + 1, 0, 0},
		{low + 1, 1, 0},
		{low + 1, 4, 0},
	}
}

// manyBits are powers of numbers with more of them.
func manyBits() []power {
	return []power{
		{-1, 5, 32},
		{-2, 5, 30},
		{-3, 5, 30},
		{-40, 5, 13},
		{0, 16, 65536},
		{-1, 16, 65536},
		{-4095, 16, 65536},
		{-4096, 16, 62757},
		{-4097, 16, 62757},
		{-65535, 16, 34218},
		{-65536, 16, 32768},
		{-65537, 16, 32768},
		{-100000, 16, 23170},
		{-1000000, 16, 1},
		{-1048576, 16, 1},
		{-1114111, 16, 0},
		{-1114112, 16, 0},
		{0, 30, 1 << 30},
		{-1, 30, 1 << 30},
		{-1<<26 + 1, 30, 1 << 30},
		{-1 << 26, 30, 1028218692},
		{-1 << 29, 30, 759250124},
		{-1<<30 + 1, 30, 560640217},
		{-1 << 30, 30, 1 << 29},
		{-1<<30 - 1, 30, 1 << 29},
		{-1<<30 - 1<<26, 30, 514109346},
		{-12345678901, 30, 387141},
		{-30<<30 + 1, 30, 1},
		{-30 << 30, 30, 1},
		{-30<<30 - 1<<26 + 1, 30, 1},
		{-30<<30 - 1<<26, 30, 0},
		{-31 << 30, 30, 0},
		{-1 << 36, 30, 0},
		{-1 << 40, 30, 0},
		{-1 << 62, 30, 0},
		{low + 1, 30, 0},
	}
}

// P13.2: Exp.
func TestExp(t *testing.T) {
	for _, x := range append(fewBits(), manyBits()...) {
		if got, e := table.Exp(x.x, x.frac); got != x.want || e != api.OK {
			t.Errorf("Exp(%d, %d): got %d, %d, not %d", x.x, x.frac, got, e, x.want)
		}
	}
}

// P13.2: Exp's errors, beside which the number is 0, and which of them comes first.
func TestExpErrors(t *testing.T) {
	for _, x := range []struct {
		x    int64
		frac int
		e    api.Errno
	}{
		{0, -1, api.ErrArg},
		{0, 31, api.ErrArg},
		{-5, -1, api.ErrArg},
		{-5, 31, api.ErrArg},
		{-5, 64, api.ErrArg},
		{-5, math.MaxInt, api.ErrArg},
		{-5, math.MinInt, api.ErrArg},
		{1, 0, api.ErrArg},
		{1, 4, api.ErrArg},
		{1, 30, api.ErrArg},
		{1, 31, api.ErrArg},
		{top, 30, api.ErrArg},
		{low, 0, api.ErrOver},
		{low, 4, api.ErrOver},
		{low, 30, api.ErrOver},
		{low, -1, api.ErrArg},
		{low, 31, api.ErrArg},
	} {
		if got, e := table.Exp(x.x, x.frac); got != 0 || e != x.e {
			t.Errorf("Exp(%d, %d): got %d, %d, not %d", x.x, x.frac, got, e, x.e)
		}
	}
}

// P13.3: Best.
func TestBest(t *testing.T) {
	longest := make([]int64, api.MaxDim)
	longest[api.MaxDim-1] = 1
	for name, x := range map[string]struct {
		z    []int64
		want int
	}{
		"one":                       {list(5), 0},
		"the first":                 {list(3, 2, 1), 0},
		"between":                   {list(3, 9, -1), 1},
		"the last":                  {list(-3, -2, -1), 2},
		"the first of two":          {list(3, 9, -1, 9), 1},
		"all the same":              {list(7, 7, 7), 0},
		"zeros":                     {list(0, 0), 0},
		"below 0":                   {list(-4, -2, -9), 1},
		"the least alone":           {list(low), 0},
		"the least twice":           {list(low, low), 0},
		"the least, and one more":   {list(low, low+1), 1},
		"far from one another":      {list(low, top, 0), 1},
		"the greatest twice":        {list(top-1, top, top), 1},
		"the longest":               {longest, api.MaxDim - 1},
		"the longest, all the same": {make([]int64, api.MaxDim), 0},
	} {
		if got, e := table.Best(x.z...); got != x.want || e != api.OK {
			t.Errorf("%s: got %d, %d, not %d", name, got, e, x.want)
		}
	}
}

// P13.3: Best's errors, beside which the place is 0.
func TestBestErrors(t *testing.T) {
	rising := make([]int64, api.MaxDim+1)
	for i := range rising {
		rising[i] = int64(i)
	}
	for name, x := range map[string]struct {
		z []int64
		e api.Errno
	}{
		"nil":                      {nil, api.ErrArg},
		"no numbers":               {list(), api.ErrArg},
		"one too many":             {make([]int64, api.MaxDim+1), api.ErrLong},
		"one too many, which rise": {rising, api.ErrLong},
		"far too many":             {make([]int64, 3*api.MaxDim), api.ErrLong},
	} {
		if got, e := table.Best(x.z...); got != 0 || e != x.e {
			t.Errorf("%s: got %d, %d, not %d", name, got, e, x.e)
		}
	}
}
