package linear_test

import (
	"math"
	"slices"
	"testing"

	"thrum/api"
	"thrum/linear"
)

const (
	top = math.MaxInt64
	low = math.MinInt64
)

// list is numbers as they are written.
func list(v ...int64) []int64 { return v }

// many is n times the same number.
func many(n int, x int64) []int64 { return slices.Repeat(list(x), n) }

// seen is a sample that is to tell y, as x is seen.
func seen(y int64, x ...int64) api.Sample { return api.Sample{X: x, Y: y} }

// batch is n times the same sample.
func batch(n int, s api.Sample) []api.Sample { return slices.Repeat([]api.Sample{s}, n) }

// P14.1: Dim.
func TestDim(t *testing.T) {
	for in := 1; in <= 16; in++ {
		if got, e := linear.Dim(in); got != in+1 || e != api.OK {
			t.Errorf("Dim(%d): got %d, %d", in, got, e)
		}
	}
	for _, in := range []int{0, -1, 17, 18, 1 << 32, 1<<32 + 1, math.MaxInt, math.MinInt} {
		if got, e := linear.Dim(in); got != 0 || e != api.ErrArg {
			t.Errorf("Dim(%d): got %d, %d", in, got, e)
		}
	}
}

// P14.1: Check of what may be.
func TestCheckOfWhatMayBe(t *testing.T) {
	for in := 1; in <= 16; in++ {
		w, s := many(in+1, top), seen(low, many(in, low)...)
		for _, n := range []int{1, 2, 63, 64} {
			if e := linear.Check(in, w, batch(n, s)...); e != api.OK {
				t.Errorf("%d, %d samples: got %d", in, n, e)
			}
		}
	}
}

// P14.1: Check's errors, and which of them comes first.
func TestCheckErrors(t *testing.T) {
	w, good, short, long := list(1, 2, 3), seen(9, 1, 2), seen(9, 1), seen(9, 1, 2, 3)
	for name, x := range map[string]struct {
		in   int
		w    []int64
		l    []api.Sample
		want api.Errno
	}{
		"sees none":                             {0, list(1), batch(1, seen(0)), api.ErrArg},
		"sees fewer than none":                  {-1, nil, batch(1, seen(0)), api.ErrArg},
		"sees too many":                         {17, many(18, 1), batch(1, seen(0, many(17, 1)...)), api.ErrArg},
		"sees far too many":                     {math.MaxInt, w, batch(1, good), api.ErrArg},
		"sees far fewer than none":              {math.MinInt, w, batch(1, good), api.ErrArg},
		"sees none, another shape":              {0, w, batch(1, good), api.ErrArg},
		"sees too many, another shape":          {17, w, batch(1, good), api.ErrArg},
		"no line":                               {2, nil, batch(1, good), api.ErrShape},
		"a line without a base":                 {2, w[:2], batch(1, good), api.ErrShape},
		"a line too long":                       {2, list(1, 2, 3, 4), batch(1, good), api.ErrShape},
		"a line for others":                     {1, w, batch(1, short), api.ErrShape},
		"a sample too short":                    {2, w, batch(1, short), api.ErrShape},
		"a sample too long":                     {2, w, batch(1, long), api.ErrShape},
		"a sample of none":                      {2, w, batch(1, seen(0)), api.ErrShape},
		"all samples too short":                 {2, w, batch(3, short), api.ErrShape},
		"the first too short":                   {2, w, []api.Sample{short, good, good}, api.ErrShape},
		"the second too long":                   {2, w, []api.Sample{good, long, good}, api.ErrShape},
		"the last too short":                    {2, w, []api.Sample{good, good, short}, api.ErrShape},
		"one too short, one too long":           {2, w, []api.Sample{short, long}, api.ErrShape},
		"no samples":                            {2, w, nil, api.ErrArg},
		"no samples, and a line too short":      {2, w[:2], nil, api.ErrShape},
		"no samples, and sees none":             {0, list(1), nil, api.ErrArg},
		"one sample too many":                   {2, w, batch(65, good), api.ErrArg},
		"far too many samples":                  {2, w, batch(1000, good), api.ErrArg},
		"too many, and a line too long":         {3, w, batch(65, good), api.ErrShape},
		"too many, the first too short":         {2, w, append([]api.Sample{short}, batch(64, good)...), api.ErrShape},
		"too many, the last too short":          {2, w, append(batch(64, good), short), api.ErrShape},
		"far too many, the last too long":       {2, w, append(batch(500, good), long), api.ErrShape},
		"as many as may be, the last too short": {2, w, append(batch(63, good), short), api.ErrShape},
	} {
		if got := linear.Check(x.in, x.w, x.l...); got != x.want {
			t.Errorf("%s: got %d, not %d", name, got, x.want)
		}
	}
}

// told is a line, what it sees, and what it tells, as another program works it out.
type told struct {
	frac int
	w, x []int64
	want int64
}

func tolds() []told {
	return []told{
		{0, list(2, 3, 1), list(10, 100), 321},
		{4, list(2, 3, 1), list(10, 100), 20},
		{0, list(2, 3, 1), list(1, -1), 0},
		{0, list(5, -7), list(-4), -27},
		{30, list(top, 7), list(0), 7},
		// Each product is down by itself, and the base is as it stands.
		{1, list(1, 1, 0), list(1, 1), 0},
		{1, list(-1, -1, 0), list(1, 1), -2},
		{30, list(0, 5), list(1), 5},
		{30, list(0, -5), list(1), -5},
		{16, list(65536, -32768, 16384), list(131072, 65536), 114688},
		{16, list(65536, -32768, 16384), list(-65536, 98304), -98304},
		{16, list(65536, -32768, 16384), list(12345, -54321), 55889},
		{30, list(1<<30, 3), list(1 << 40), 1<<40 + 3},
		{30, list(1<<30, 3), list(-1<<31 - 1), -1<<31 + 2},
		{30, list(1<<46, 0), list(1<<46 + 5), 1<<62 + 5<<16},
		{0, list(-3, 2, 5, 7, -11, 13, -17, 19, -23, 29, -31, 37, -41, 43, -47, 53, 99), list(0, 0, 0, 0, 0, 0, 0, 0, 0, 0, 0, 0, 0, 0, 0, 1), 152},
		{3, list(-3, 2, 5, 7, -11, 13, -17, 19, -23, 29, -31, 37, -41, 43, -47, 53, 99), list(1, 2, 3, 4, 5, 6, 7, 8, 9, 10, 11, 12, 13, 14, 15, 16), 155},
		// At the edges: the base is put on last.
		{0, list(1, 0), list(top), top},
		{0, list(1, 0), list(low), low},
		{0, list(1, low), list(top), -1},
		{0, list(1, -2, top), list(1, 1), top - 1},
		{0, list(-1, 2, low), list(1, 1), low + 1},
		{0, list(1, -1, 1), list(top, 1), top},
	}
}

// P14.2: Tell.
func TestTell(t *testing.T) {
	for _, x := range tolds() {
		if got, e := linear.Tell(x.w, x.x, x.frac); got != x.want || e != api.OK {
			t.Errorf("Tell(%v, %v, %d): got %d, %d, not %d", x.w, x.x, x.frac, got, e, x.want)
		}
	}
}

// wrong is a line and what it sees, of which nothing can be told.
type wrong struct {
	name string
	frac int
	w, x []int64
	want api.Errno
}

func wrongs() []wrong {
	return []wrong{
		{"sees none", 0, list(1), nil, api.ErrArg},
		{"sees none, no line", 0, nil, list(), api.ErrArg},
		{"sees too many", 0, many(18, 1), many(17, 1), api.ErrArg},
		{"sees too many, another shape", 0, list(1, 2), many(17, 1), api.ErrArg},
		{"sees more than a vector has", 0, many(api.MaxDim+2, 1), many(api.MaxDim+1, 1), api.ErrArg},
		{"no line", 0, nil, list(1), api.ErrShape},
		{"a line without a base", 0, list(1, 2), list(1, 2), api.ErrShape},
		{"a line too long", 0, list(1, 2, 3, 4), list(1, 2), api.ErrShape},
		{"a line longer than a vector", 0, many(api.MaxDim+1, 1), list(1), api.ErrShape},
		{"a bit too many", 31, list(1, 2), list(1), api.ErrArg},
		{"a bit below none", -1, list(1, 2), list(1), api.ErrArg},
		{"far too many bits", math.MaxInt, list(1, 2), list(1), api.ErrArg},
		{"bits far below none", math.MinInt, list(1, 2), list(1), api.ErrArg},
		{"a bit too many of zeros", 31, list(0, 0), list(0), api.ErrArg},
		{"a bit too many, another shape", 31, list(1, 2, 3), list(1), api.ErrShape},
		{"a bit below none, another shape", -1, list(1), list(1), api.ErrShape},
		{"a bit too many, and over", 31, list(top, top), list(top), api.ErrArg},
		{"over, another shape", 0, list(top, top, top), list(top), api.ErrShape},
		{"a product over", 0, list(top, 0), list(2), api.ErrOver},
		{"a product over below", 0, list(low, 0), list(2), api.ErrOver},
		{"a product over, the base the other way", 0, list(1<<32, low), list(1 << 31), api.ErrOver},
		{"the second product over", 0, list(1, low, 0), list(1, -1), api.ErrOver},
		{"the sum over", 0, list(1, 1, 0), list(top, 1), api.ErrOver},
		{"the sum over on the way", 0, list(1, 1, 1, 0), list(top, 1, -1), api.ErrOver},
		{"the sum over, the base the other way", 0, list(1, 1, -5), list(top, 1), api.ErrOver},
		{"the sum over below, the base the other way", 0, list(1, 1, 5), list(low, -1), api.ErrOver},
		{"over with the base", 0, list(1, 1), list(top), api.ErrOver},
		{"over below with the base", 0, list(1, -1), list(low), api.ErrOver},
		{"over with the base, thirty bits", 30, list(1<<30, top), list(1), api.ErrOver},
	}
}

// P14.2: Tell's errors, beside which the number is 0, and which of them comes first. Off tells the same.
func TestTellErrors(t *testing.T) {
	for _, x := range wrongs() {
		if got, e := linear.Tell(x.w, x.x, x.frac); got != 0 || e != x.want {
			t.Errorf("%s: got %d, %d, not %d", x.name, got, e, x.want)
		}
		for _, y := range list(0, 1, top, low) {
			if got, e := linear.Off(x.w, seen(y, x.x...), x.frac); got != 0 || e != x.want {
				t.Errorf("%s, off %d: got %d, %d, not %d", x.name, y, got, e, x.want)
			}
		}
	}
}

// P14.2: Off is what is told, less what is to be.
func TestOff(t *testing.T) {
	for _, x := range tolds() {
		for _, off := range list(0, 1, -1, 5, -37, 1<<40, -1<<62) {
			y := x.want - off
			if (y > x.want) != (off < 0) {
				continue
			}
			if got, e := linear.Off(x.w, seen(y, x.x...), x.frac); got != off || e != api.OK {
				t.Errorf("Off(%v, %v, %d, %d): got %d, %d, not %d", x.w, x.x, y, x.frac, got, e, off)
			}
		}
	}
}

// P14.2: Off next to the edges, and over them.
func TestOffAtTheEdges(t *testing.T) {
	for _, x := range []struct {
		told, y, want int64
		e             api.Errno
	}{
		{0, 0, 0, api.OK},
		{0, top, -top, api.OK},
		{0, low + 1, top, api.OK},
		{0, low, 0, api.ErrOver},
		{-1, low, top, api.OK},
		{-1, top, low, api.OK},
		{-2, top, 0, api.ErrOver},
		{1, -top, 0, api.ErrOver},
		{top, top, 0, api.OK},
		{top, 0, top, api.OK},
		{top, -1, 0, api.ErrOver},
		{top, low, 0, api.ErrOver},
		{low, low, 0, api.OK},
		{low, 0, low, api.OK},
		{low, 1, 0, api.ErrOver},
		{low, top, 0, api.ErrOver},
	} {
		for _, frac := range []int{0, 7, 30} {
			if got, e := linear.Off(list(0, x.told), seen(x.y, 3), frac); got != x.want || e != x.e {
				t.Errorf("%d less %d: got %d, %d, not %d, %d", x.told, x.y, got, e, x.want, x.e)
			}
		}
	}
}
