package table_test

import (
	"math"
	"slices"
	"testing"

	"thrum/api"
	"thrum/table"
)

// P13.3: Soft, as another program works it out.
func TestSoft(t *testing.T) {
	for _, x := range []struct {
		frac int
		z    []int64
		want []int64
	}{
		{4, list(0, 0), list(8, 8)},
		{4, list(5), list(16)},
		{4, list(low), list(16)},
		{4, list(-16, 0), list(5, 10)},
		{4, list(0, -16), list(10, 5)},
		{4, list(100, 100, 100), list(5, 5, 5)},
		{4, list(0, -1000), list(16, 0)},
		{4, list(low, low), list(8, 8)},
		{0, list(7), list(1)},
		{0, list(0, 0), list(0, 0)},
		{0, list(0, -1), list(1, 0)},
		{0, list(low, -1), list(0, 1)},
		{1, list(0, -1), list(1, 0)},
		{1, list(0, -2), list(1, 0)},
		{1, list(0, -3), list(2, 0)},
		{8, list(256, 512, 0, 128), list(60, 121, 30, 42)},
		{8, list(-256, -512, 0, -128), list(52, 26, 104, 73)},
		{16, list(65536, 0, -65536), list(37449, 18724, 9362)},
		{16, list(1, 2, 3, 4, 5), list(13107, 13107, 13107, 13107, 13107)},
		{16, list(1, 4097, 8193), list(20905, 21831, 22798)},
		{16, list(100000, -100000, 50000, 49999), list(28319, 3539, 16838, 16838)},
		{30, list(0, 0, 0), list(357913941, 357913941, 357913941)},
		{30, list(1<<30, 0), list(715827882, 357913941)},
		{30, list(1<<30, 1<<29, 1<<28, 0, -1<<30), list(351849194, 248794951, 209210782, 175924597, 87962298)},
		{30, list(top, top-1<<30), list(715827882, 357913941)},
		{30, list(low, low+1<<30), list(357913941, 715827882)},
		{30, list(low+5, 4), list(0, 1<<30)},
		{30, list(0, -31<<30), list(1<<30, 0)},
		{30, list(0, -30<<30), list(1<<30-1, 0)},
	} {
		if got, e := table.Soft(x.frac, x.z...); !slices.Equal(got, x.want) || e != api.OK {
			t.Errorf("Soft(%d, %v): got %v, %d, not %v", x.frac, x.z, got, e, x.want)
		}
	}
}

// P13.3: the longest list has as many shares; all of them are the same where the numbers are.
func TestSoftOfTheLongest(t *testing.T) {
	z := make([]int64, api.MaxDim)
	for frac, want := range map[int]int64{0: 0, 11: 0, 12: 1, 13: 2, 30: 1 << 18} {
		got, e := table.Soft(frac, z...)
		if !slices.Equal(got, slices.Repeat(list(want), api.MaxDim)) || e != api.OK {
			t.Errorf("%d: got %v, %d", frac, got, e)
		}
	}
}

// P13.3: Soft's errors, beside which there are no shares, and which of them comes first.
func TestSoftErrors(t *testing.T) {
	long := append(list(low, top), make([]int64, api.MaxDim)...)
	for name, x := range map[string]struct {
		frac int
		z    []int64
		e    api.Errno
	}{
		"no numbers":                       {4, nil, api.ErrArg},
		"no numbers, a bit below none":     {-1, list(), api.ErrArg},
		"too many":                         {4, make([]int64, api.MaxDim+1), api.ErrLong},
		"too many, a bit below none":       {-1, make([]int64, api.MaxDim+1), api.ErrLong},
		"too many, a bit too many":         {31, make([]int64, api.MaxDim+1), api.ErrLong},
		"too many, which go over":          {4, long, api.ErrLong},
		"a bit below none":                 {-1, list(1), api.ErrArg},
		"a bit too many":                   {31, list(1), api.ErrArg},
		"far too many bits":                {math.MaxInt, list(1, 2), api.ErrArg},
		"bits far below none":              {math.MinInt, list(1, 2), api.ErrArg},
		"a bit too many, which go over":    {31, list(low, top), api.ErrArg},
		"a bit below none, which go over":  {-1, list(low, top), api.ErrArg},
		"a difference that goes over":      {4, list(top, -2), api.ErrOver},
		"far over":                         {0, list(low, top), api.ErrOver},
		"over, the greatest behind it":     {30, list(-1<<62-1, 0, 1<<62), api.ErrOver},
		"a difference that is the least":   {4, list(0, low), api.ErrOver},
		"another one that is":              {30, list(top, 5, -1), api.ErrOver},
		"the least one, behind good ones":  {4, append(make([]int64, api.MaxDim-1), low), api.ErrOver},
		"one that goes over, then another": {4, list(1, low, low+1), api.ErrOver},
	} {
		if got, e := table.Soft(x.frac, x.z...); len(got) != 0 || e != x.e {
			t.Errorf("%s: got %v, %d, not %d", name, got, e, x.e)
		}
	}
}

// P13.3: as far from one another as may be, one has the whole, the other nothing.
func TestSoftNextToWhatGoesOver(t *testing.T) {
	for frac := range api.MaxFrac + 1 {
		for _, z := range [][]int64{list(low+1, 0), list(low, -1), list(0, top), list(-5, top-5)} {
			want := list(0, 1<<frac)
			if got, e := table.Soft(frac, z...); !slices.Equal(got, want) || e != api.OK {
				t.Errorf("Soft(%d, %v): got %v, %d", frac, z, got, e)
			}
			slices.Reverse(z)
			slices.Reverse(want)
			if got, e := table.Soft(frac, z...); !slices.Equal(got, want) || e != api.OK {
				t.Errorf("Soft(%d, %v): got %v, %d", frac, z, got, e)
			}
		}
	}
}
