package soft_test

import (
	"math"
	"slices"
	"testing"

	"thrum/api"
	"thrum/soft"
)

const (
	top = math.MaxInt64
	low = math.MinInt64
)

// list is numbers as they are written.
func list(v ...int64) []int64 { return v }

// many is n times the same number.
func many(n int, x int64) []int64 { return slices.Repeat(list(x), n) }

// seen is a sample of class y, as x is seen.
func seen(y int64, x ...int64) api.Sample { return api.Sample{X: x, Y: y} }

// batch is n times the same sample.
func batch(n int, s api.Sample) []api.Sample { return slices.Repeat([]api.Sample{s}, n) }

// mayNotSee and mayNotTell are how many numbers are seen, and how many classes there are, where that may not be.
func mayNotSee() []int {
	return []int{0, -1, 17, 18, 1 << 32, 1<<32 + 1, math.MaxInt, math.MaxInt - 1, math.MinInt}
}

func mayNotTell() []int {
	return []int{1, 0, -1, -2, 9, 10, 16, 1 << 32, 1<<32 + 2, math.MaxInt, math.MinInt}
}

// P15.1: Dim of what may be.
func TestDimOfWhatMayBe(t *testing.T) {
	for in := 1; in <= 16; in++ {
		for out := 2; out <= 8; out++ {
			if got, e := soft.Dim(in, out); got != out*(in+1) || e != api.OK {
				t.Errorf("Dim(%d, %d): got %d, %d", in, out, got, e)
			}
		}
	}
	for _, x := range []struct{ in, out, want int }{{1, 2, 4}, {16, 2, 34}, {1, 8, 16}, {16, 8, 136}, {3, 5, 20}} {
		if got, e := soft.Dim(x.in, x.out); got != x.want || e != api.OK {
			t.Errorf("Dim(%d, %d): got %d, %d", x.in, x.out, got, e)
		}
	}
}

// P15.1: Dim's error, beside which the number is 0.
func TestDimErrors(t *testing.T) {
	for _, in := range append(mayNotSee(), 1, 2, 15, 16) {
		for _, out := range append(mayNotTell(), 2, 3, 7, 8) {
			if in >= 1 && in <= 16 && out >= 2 && out <= 8 {
				continue
			}
			if got, e := soft.Dim(in, out); got != 0 || e != api.ErrArg {
				t.Errorf("Dim(%d, %d): got %d, %d", in, out, got, e)
			}
		}
	}
}

// P15.1: Check of what may be.
func TestCheckOfWhatMayBe(t *testing.T) {
	for in := 1; in <= 16; in++ {
		for out := 2; out <= 8; out++ {
			w := many(out*(in+1), top)
			for y := range out {
				for _, n := range []int{1, 2, 63, 64} {
					if e := soft.Check(in, out, w, batch(n, seen(int64(y), many(in, low)...))...); e != api.OK {
						t.Errorf("%d, %d, %d samples of %d: got %d", in, out, n, y, e)
					}
				}
			}
		}
	}
}

// P15.1: Check tells of what is seen and of classes that may not be, ahead of all else.
func TestCheckTellsOfDimFirst(t *testing.T) {
	for _, in := range append(mayNotSee(), 2) {
		for _, out := range append(mayNotTell(), 3) {
			if in == 2 && out == 3 {
				continue
			}
			for _, w := range [][]int64{nil, many(1, 1), many(9, 1), many(51, 1), many(136, 1)} {
				for _, l := range [][]api.Sample{nil, {seen(0, 1, 2)}, {seen(9, 1)}, batch(65, seen(0, 1, 2))} {
					if got := soft.Check(in, out, w, l...); got != api.ErrArg {
						t.Errorf("Check(%d, %d, %v, %v): got %d", in, out, w, l, got)
					}
				}
			}
		}
	}
}

// P15.1: Check's errors, and which of them comes first.
func TestCheckErrors(t *testing.T) {
	w := many(9, 1)
	good, last := seen(0, 1, 2), seen(2, 1, 2)
	short, long, none := seen(0, 1), seen(0, 1, 2, 3), seen(0)
	above, below := seen(3, 1, 2), seen(-1, 1, 2)
	for name, x := range map[string]struct {
		in, out int
		w       []int64
		l       []api.Sample
		want    api.Errno
	}{
		"no lines":                              {2, 3, nil, batch(1, good), api.ErrShape},
		"a number too few":                      {2, 3, w[:8], batch(1, good), api.ErrShape},
		"a number too many":                     {2, 3, many(10, 1), batch(1, good), api.ErrShape},
		"a line too few":                        {2, 3, w[:6], batch(1, good), api.ErrShape},
		"a line too many":                       {2, 3, many(12, 1), batch(1, good), api.ErrShape},
		"lines without bases":                   {2, 3, w[:6], batch(1, good), api.ErrShape},
		"one line alone":                        {2, 3, w[:3], batch(1, good), api.ErrShape},
		"lines for others":                      {1, 3, w, batch(1, short), api.ErrShape},
		"far more than a vector has":            {2, 3, many(api.MaxDim+1, 1), batch(1, good), api.ErrShape},
		"a sample too short":                    {2, 3, w, batch(1, short), api.ErrShape},
		"a sample too long":                     {2, 3, w, batch(1, long), api.ErrShape},
		"a sample of none":                      {2, 3, w, batch(1, none), api.ErrShape},
		"the first too short":                   {2, 3, w, []api.Sample{short, good, last}, api.ErrShape},
		"the second too long":                   {2, 3, w, []api.Sample{good, long, last}, api.ErrShape},
		"the last too short":                    {2, 3, w, []api.Sample{good, last, short}, api.ErrShape},
		"no samples":                            {2, 3, w, nil, api.ErrArg},
		"one sample too many":                   {2, 3, w, batch(65, good), api.ErrArg},
		"far too many samples":                  {2, 3, w, batch(1000, good), api.ErrArg},
		"a class above":                         {2, 3, w, batch(1, above), api.ErrArg},
		"a class below":                         {2, 3, w, batch(1, below), api.ErrArg},
		"a class far above":                     {2, 3, w, batch(1, seen(top, 1, 2)), api.ErrArg},
		"a class far below":                     {2, 3, w, batch(1, seen(low, 1, 2)), api.ErrArg},
		"a class of 33 bits":                    {2, 3, w, batch(1, seen(1<<32, 1, 2)), api.ErrArg},
		"a class that more lines would have":    {2, 2, w[:6], batch(1, last), api.ErrArg},
		"the first class above":                 {2, 3, w, []api.Sample{above, good, last}, api.ErrArg},
		"the second class below":                {2, 3, w, []api.Sample{good, below, last}, api.ErrArg},
		"the last class above":                  {2, 3, w, append(batch(63, good), above), api.ErrArg},
		"no samples, a number too few":          {2, 3, w[:8], nil, api.ErrShape},
		"too many, a number too many":           {2, 3, many(10, 1), batch(65, good), api.ErrShape},
		"too many, the first too short":         {2, 3, w, append([]api.Sample{short}, batch(64, good)...), api.ErrShape},
		"too many, the last too short":          {2, 3, w, append(batch(64, good), short), api.ErrShape},
		"far too many, the last too long":       {2, 3, w, append(batch(500, good), long), api.ErrShape},
		"a class above, a number too few":       {2, 3, w[:8], batch(1, above), api.ErrShape},
		"a class above, the same too short":     {2, 3, w, batch(1, seen(3, 1)), api.ErrShape},
		"a class above, another one too short":  {2, 3, w, []api.Sample{above, good, short}, api.ErrShape},
		"a class below, another one too long":   {2, 3, w, []api.Sample{long, below}, api.ErrShape},
		"too many, a class above, one too long": {2, 3, w, append(batch(64, above), long), api.ErrShape},
	} {
		if got := soft.Check(x.in, x.out, x.w, x.l...); got != x.want {
			t.Errorf("%s: got %d, not %d", name, got, x.want)
		}
	}
}

// rising is as many numbers, all of them others.
func rising(n int) []int64 {
	v := make([]int64, n)
	for i := range v {
		v[i] = int64(i*i - 40*i)
	}
	return v
}

// P15.1: Rows of what may be.
func TestRowsOfWhatMayBe(t *testing.T) {
	for in := 1; in <= 16; in++ {
		for out := 2; out <= 8; out++ {
			w := rising(out * (in + 1))
			got, e := soft.Rows(out, w)
			if len(got) != out || e != api.OK {
				t.Fatalf("%d lines that see %d: got %v, %d", out, in, got, e)
			}
			for i, line := range got {
				if want := w[i*(in+1) : (i+1)*(in+1)]; !slices.Equal(line, want) {
					t.Errorf("line %d of %d that see %d: got %v, not %v", i, out, in, line, want)
				}
			}
		}
	}
}

// P15.1: the same numbers are more lines, or fewer.
func TestRowsOfTheSameNumbers(t *testing.T) {
	w := list(1, -2, 3, top, low, 6, 7, 0, 9, 10, 11, 12)
	for out, want := range map[int][][]int64{
		2: {list(1, -2, 3, top, low, 6), list(7, 0, 9, 10, 11, 12)},
		3: {list(1, -2, 3, top), list(low, 6, 7, 0), list(9, 10, 11, 12)},
		4: {list(1, -2, 3), list(top, low, 6), list(7, 0, 9), list(10, 11, 12)},
		6: {list(1, -2), list(3, top), list(low, 6), list(7, 0), list(9, 10), list(11, 12)},
	} {
		if got, e := soft.Rows(out, w); !slices.EqualFunc(got, want, slices.Equal) || e != api.OK {
			t.Errorf("%d: got %v, %d, not %v", out, got, e, want)
		}
	}
}

// P15.1: Rows' errors, beside which there are no lines, and which of them comes first.
func TestRowsErrors(t *testing.T) {
	for out := 2; out <= 8; out++ {
		for n := range 20 * out {
			want := api.ErrShape
			if n%out == 0 && n >= 2*out && n <= 17*out {
				want = api.OK
			}
			if got, e := soft.Rows(out, rising(n)); e != want || (len(got) == out) != (e == api.OK) {
				t.Errorf("%d numbers, %d lines: got %v, %d", n, out, got, e)
			}
		}
		for _, n := range []int{18 * out, 256 * out, 4096, 4097, 1 << 16} {
			if got, e := soft.Rows(out, make([]int64, n)); len(got) != 0 || e != api.ErrShape {
				t.Errorf("%d numbers, %d lines: got %v, %d", n, out, got, e)
			}
		}
	}
	for _, out := range mayNotTell() {
		for _, n := range []int{0, 1, 2, 5, 9, 18, 20, 153} {
			if got, e := soft.Rows(out, rising(n)); len(got) != 0 || e != api.ErrArg {
				t.Errorf("%d numbers, %d lines: got %v, %d", n, out, got, e)
			}
		}
	}
}
