package mlp_test

import (
	"math"
	"slices"
	"testing"

	"thrum/api"
	"thrum/mlp"
)

const (
	top = math.MaxInt64
	low = math.MinInt64
)

// list is numbers as they are written.
func list(v ...int64) []int64 { return v }

// many is n times the same number.
func many(n int, x int64) []int64 { return slices.Repeat(list(x), n) }

// seen is a sample that is to tell y, as x is seen.
func seen(y int64, x ...int64) api.Sample { return api.Sample{X: x, Y: y} }

// batch is n times the same sample.
func batch(n int, s api.Sample) []api.Sample { return slices.Repeat([]api.Sample{s}, n) }

// mayNotSee and mayNotHide are how many numbers are seen, and how many lines there are between, where that may not be.
func mayNotSee() []int {
	return []int{0, -1, 17, 18, 1 << 32, 1<<32 + 1, math.MaxInt, math.MaxInt - 1, math.MinInt}
}

func mayNotHide() []int {
	return []int{0, -1, -2, -3, 9, 10, 16, 17, 1 << 32, 1<<32 + 1, math.MaxInt, math.MaxInt - 1, math.MinInt, math.MinInt + 1}
}

// P16.1: Dim of what may be.
func TestDimOfWhatMayBe(t *testing.T) {
	for in := 1; in <= 16; in++ {
		for hid := 1; hid <= 8; hid++ {
			if got, e := mlp.Dim(in, hid); got != hid*(in+1)+hid+1 || e != api.OK {
				t.Errorf("Dim(%d, %d): got %d, %d", in, hid, got, e)
			}
		}
	}
	for _, x := range []struct{ in, hid, want int }{{1, 1, 4}, {16, 1, 19}, {1, 8, 25}, {16, 8, 145}, {3, 5, 26}} {
		if got, e := mlp.Dim(x.in, x.hid); got != x.want || e != api.OK {
			t.Errorf("Dim(%d, %d): got %d, %d", x.in, x.hid, got, e)
		}
	}
}

// P16.1: Dim's error, beside which the number is 0.
func TestDimErrors(t *testing.T) {
	for _, in := range append(mayNotSee(), 1, 2, 15, 16) {
		for _, hid := range append(mayNotHide(), 1, 2, 7, 8) {
			if in >= 1 && in <= 16 && hid >= 1 && hid <= 8 {
				continue
			}
			if got, e := mlp.Dim(in, hid); got != 0 || e != api.ErrArg {
				t.Errorf("Dim(%d, %d): got %d, %d", in, hid, got, e)
			}
		}
	}
}

// P16.1: Check of what may be.
func TestCheckOfWhatMayBe(t *testing.T) {
	for in := 1; in <= 16; in++ {
		for hid := 1; hid <= 8; hid++ {
			w := many(hid*(in+1)+hid+1, top)
			for _, n := range []int{1, 2, 63, 64} {
				if e := mlp.Check(in, hid, w, batch(n, seen(low, many(in, low)...))...); e != api.OK {
					t.Errorf("%d, %d, %d samples: got %d", in, hid, n, e)
				}
			}
		}
	}
}

// P16.1: Check tells of what is seen and of lines that may not be, ahead of all else.
func TestCheckTellsOfDimFirst(t *testing.T) {
	for _, in := range append(mayNotSee(), 2) {
		for _, hid := range append(mayNotHide(), 3) {
			if in == 2 && hid == 3 {
				continue
			}
			for _, w := range [][]int64{nil, many(1, 1), many(4, 1), many(13, 1), many(37, 1), many(145, 1)} {
				for _, l := range [][]api.Sample{nil, {seen(0, 1, 2)}, {seen(9, 1)}, batch(65, seen(0, 1, 2))} {
					if got := mlp.Check(in, hid, w, l...); got != api.ErrArg {
						t.Errorf("Check(%d, %d, %v, %v): got %d", in, hid, w, l, got)
					}
				}
			}
		}
	}
}

// P16.1: Check's errors, and which of them comes first.
func TestCheckErrors(t *testing.T) {
	w := many(13, 1)
	good, last := seen(0, 1, 2), seen(2, 1, 2)
	short, long, none := seen(0, 1), seen(0, 1, 2, 3), seen(0)
	for name, x := range map[string]struct {
		in, hid int
		w       []int64
		l       []api.Sample
		want    api.Errno
	}{
		"no lines":                         {2, 3, nil, batch(1, good), api.ErrShape},
		"a number too few":                 {2, 3, w[:12], batch(1, good), api.ErrShape},
		"a number too many":                {2, 3, many(14, 1), batch(1, good), api.ErrShape},
		"a line too few":                   {2, 3, w[:10], batch(1, good), api.ErrShape},
		"a line too many":                  {2, 3, many(16, 1), batch(1, good), api.ErrShape},
		"another line, all of it":          {2, 3, many(17, 1), batch(1, good), api.ErrShape},
		"without the last line":            {2, 3, w[:9], batch(1, good), api.ErrShape},
		"the last line alone":              {2, 3, w[:4], batch(1, good), api.ErrShape},
		"one line alone":                   {2, 3, w[:3], batch(1, good), api.ErrShape},
		"layers for others":                {1, 3, w, batch(1, short), api.ErrShape},
		"layers that hide more":            {2, 4, w, batch(1, good), api.ErrShape},
		"far more than a vector has":       {2, 3, many(api.MaxDim+1, 1), batch(1, good), api.ErrShape},
		"a sample too short":               {2, 3, w, batch(1, short), api.ErrShape},
		"a sample too long":                {2, 3, w, batch(1, long), api.ErrShape},
		"a sample of none":                 {2, 3, w, batch(1, none), api.ErrShape},
		"the first too short":              {2, 3, w, []api.Sample{short, good, last}, api.ErrShape},
		"the second too long":              {2, 3, w, []api.Sample{good, long, last}, api.ErrShape},
		"the last too short":               {2, 3, w, []api.Sample{good, last, short}, api.ErrShape},
		"no samples":                       {2, 3, w, nil, api.ErrArg},
		"one sample too many":              {2, 3, w, batch(65, good), api.ErrArg},
		"far too many samples":             {2, 3, w, batch(1000, good), api.ErrArg},
		"no samples, a number too few":     {2, 3, w[:12], nil, api.ErrShape},
		"too many, a number too many":      {2, 3, many(14, 1), batch(65, good), api.ErrShape},
		"too many, the first too short":    {2, 3, w, append([]api.Sample{short}, batch(64, good)...), api.ErrShape},
		"too many, the last too short":     {2, 3, w, append(batch(64, good), short), api.ErrShape},
		"far too many, the last too long":  {2, 3, w, append(batch(500, good), long), api.ErrShape},
		"what is to be told, at the edges": {2, 3, w, []api.Sample{seen(top, 1, 2), seen(low, 1, 2)}, api.OK},
	} {
		if got := mlp.Check(x.in, x.hid, x.w, x.l...); got != x.want {
			t.Errorf("%s: got %d, not %d", name, got, x.want)
		}
	}
}

// rising is as many numbers, all of them others.
func rising(n int) []int64 {
	v := make([]int64, n)
	for i := range v {
		v[i] = int64(i*i - 40*i)
	}
	return v
}

// P16.1: Split of what may be.
func TestSplitOfWhatMayBe(t *testing.T) {
	for in := 1; in <= 16; in++ {
		for hid := 1; hid <= 8; hid++ {
			w := rising(hid*(in+1) + hid + 1)
			lines, last, e := mlp.Split(hid, w)
			if len(lines) != hid || e != api.OK {
				t.Fatalf("%d lines that see %d: got %v, %d", hid, in, lines, e)
			}
			for i, line := range lines {
				if want := w[i*(in+1) : (i+1)*(in+1)]; !slices.Equal(line, want) {
					t.Errorf("line %d of %d that see %d: got %v, not %v", i, hid, in, line, want)
				}
			}
			if want := w[hid*(in+1):]; !slices.Equal(last, want) || len(last) != hid+1 {
				t.Errorf("behind %d lines that see %d: got %v, not %v", hid, in, last, want)
			}
		}
	}
}

// P16.1: the same numbers are more lines, or fewer.
func TestSplitOfTheSameNumbers(t *testing.T) {
	w := list(1, -2, 3, top, low, 6, 7, 0, 9, 10, 11, 12, 13)
	for hid, want := range map[int][][]int64{
		1: {list(1, -2, 3, top, low, 6, 7, 0, 9, 10, 11), list(12, 13)},
		2: {list(1, -2, 3, top, low), list(6, 7, 0, 9, 10), list(11, 12, 13)},
		3: {list(1, -2, 3), list(top, low, 6), list(7, 0, 9), list(10, 11, 12, 13)},
		4: {list(1, -2), list(3, top), list(low, 6), list(7, 0), list(9, 10, 11, 12, 13)},
	} {
		lines, last, e := mlp.Split(hid, w)
		if got := append(slices.Clone(lines), last); !slices.EqualFunc(got, want, slices.Equal) || e != api.OK {
			t.Errorf("%d: got %v, %d, not %v", hid, got, e, want)
		}
	}
}

// P16.1: Split's errors, beside which there are no lines, and which of them comes first.
func TestSplitErrors(t *testing.T) {
	for hid := 1; hid <= 8; hid++ {
		for n := range 21*hid + 3 {
			want, rest := api.ErrShape, n-hid-1
			if rest%hid == 0 && rest >= 2*hid && rest <= 17*hid {
				want = api.OK
			}
			lines, last, e := mlp.Split(hid, rising(n))
			if e != want || (len(lines) == hid) != (e == api.OK) || (len(last) == hid+1) != (e == api.OK) {
				t.Errorf("%d numbers, %d lines: got %v, %v, %d", n, hid, lines, last, e)
			}
			if e != api.OK && len(lines)+len(last) != 0 {
				t.Errorf("%d numbers, %d lines: got %v, %v beside %d", n, hid, lines, last, e)
			}
		}
		for _, n := range []int{19*hid + 1, 257*hid + 1, 4096, 4097, 1 << 16} {
			if lines, last, e := mlp.Split(hid, make([]int64, n)); len(lines)+len(last) != 0 || e != api.ErrShape {
				t.Errorf("%d numbers, %d lines: got %v, %v, %d", n, hid, lines, last, e)
			}
		}
	}
	for _, hid := range mayNotHide() {
		for _, n := range []int{0, 1, 2, 4, 5, 9, 18, 28, 37, 145, 163} {
			if lines, last, e := mlp.Split(hid, rising(n)); len(lines)+len(last) != 0 || e != api.ErrArg {
				t.Errorf("%d numbers, %d lines: got %v, %v, %d", n, hid, lines, last, e)
			}
		}
	}
}

// P16.2: Bend.
func TestBend(t *testing.T) {
	for i, x := range []struct{ z, want []int64 }{
		{nil, nil},
		{list(), nil},
		{list(0), list(0)},
		{list(1), list(1)},
		{list(-1), list(0)},
		{list(top, low, top-1, low+1), list(top, 0, top-1, 0)},
		{list(3, -1, 0, 7, -9, 1<<32, -1<<32), list(3, 0, 0, 7, 0, 1<<32, 0)},
		{many(api.MaxDim-1, 5), many(api.MaxDim-1, 5)},
		{many(api.MaxDim, 5), many(api.MaxDim, 5)},
		{many(api.MaxDim, -5), many(api.MaxDim, 0)},
	} {
		if got, e := mlp.Bend(x.z...); !slices.Equal(got, x.want) || e != api.OK {
			t.Errorf("%d: got %v, %d, not %v", i, got, e, x.want)
		}
	}
}

// P16.2: Bend of more numbers than a vector has.
func TestBendOfTooMany(t *testing.T) {
	for _, n := range []int{api.MaxDim + 1, api.MaxDim + 2, 2 * api.MaxDim, 1 << 17} {
		for _, number := range list(0, 1, -1) {
			if got, e := mlp.Bend(many(n, number)...); len(got) != 0 || e != api.ErrLong {
				t.Errorf("%d times %d: got %d numbers, %d", n, number, len(got), e)
			}
		}
	}
}
