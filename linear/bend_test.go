package linear_test

import (
	"math"
	"slices"
	"testing"

	"thrum/api"
	"thrum/linear"
)

// P14.3: Mean.
func TestMean(t *testing.T) {
	for _, x := range []struct {
		n    int
		l    [][]int64
		want []int64
	}{
		{2, [][]int64{list(1, 4), list(-4, 4), list(0, 1)}, list(-2, 4)},
		{1, [][]int64{list(3, -5, 0)}, list(3, -5, 0)},
		{2, [][]int64{list(3, -3, 1, -1, 0)}, list(1, -2, 0, -1, 0)},
		{1, [][]int64{list(7), list(8)}, list(15)},
		// Parts are made of the sum, not of each vector.
		{2, [][]int64{list(1), list(1)}, list(1)},
		{2, [][]int64{list(-1), list(-1)}, list(-1)},
		{3, [][]int64{list(2, -2), list(2, -2)}, list(1, -2)},
		{10, [][]int64{list(9, -9, 10, -10, 11, -11)}, list(0, -1, 1, -1, 1, -2)},
		{1, [][]int64{list(top, low)}, list(top, low)},
		{2, [][]int64{list(top, low, low+1)}, list(1<<62-1, -1<<62, -1<<62)},
		{math.MaxInt, [][]int64{list(top, low, 1, -1, top-1)}, list(1, -2, 0, -1, 0)},
		{2, [][]int64{list(top, low), list(low, top), list(5, 4)}, list(2, 1)},
		{3, nil, nil},
		{1, nil, nil},
		{math.MaxInt, nil, nil},
		{3, [][]int64{nil}, nil},
		{2, [][]int64{nil, list()}, nil},
		{2, [][]int64{many(api.MaxDim, 5), many(api.MaxDim, -10)}, many(api.MaxDim, -3)},
	} {
		if got, e := linear.Mean(x.n, x.l...); !slices.Equal(got, x.want) || e != api.OK {
			t.Errorf("Mean(%d, %v): got %v, %d, not %v", x.n, x.l, got, e, x.want)
		}
	}
}

// P14.3: Mean's errors, beside which there are no numbers, and which of them comes first.
func TestMeanErrors(t *testing.T) {
	long := make([]int64, api.MaxDim+1)
	for name, x := range map[string]struct {
		n    int
		l    [][]int64
		want api.Errno
	}{
		"of 0":                       {0, [][]int64{list(1)}, api.ErrArg},
		"of -1":                      {-1, [][]int64{list(1)}, api.ErrArg},
		"of the least":               {math.MinInt, [][]int64{list(1)}, api.ErrArg},
		"of 0, no vectors":           {0, nil, api.ErrArg},
		"of -1, no vectors":          {-1, nil, api.ErrArg},
		"of 0, no numbers":           {0, [][]int64{nil}, api.ErrArg},
		"of 0, too long":             {0, [][]int64{long}, api.ErrArg},
		"of 0, another shape":        {0, [][]int64{list(1), nil}, api.ErrArg},
		"of -1, over":                {-1, [][]int64{list(top), list(1)}, api.ErrArg},
		"too long":                   {1, [][]int64{long}, api.ErrLong},
		"the second too long":        {2, [][]int64{list(1), long}, api.ErrLong},
		"another shape":              {1, [][]int64{list(1), nil}, api.ErrShape},
		"the third of another shape": {3, [][]int64{list(1), list(2), list(3, 4)}, api.ErrShape},
		"over":                       {2, [][]int64{list(0, top), list(0, 1)}, api.ErrOver},
		"over below":                 {9, [][]int64{list(low), list(-1)}, api.ErrOver},
		"over on the way":            {3, [][]int64{list(top), list(1), list(-1)}, api.ErrOver},
		"over, then another shape":   {3, [][]int64{list(top), list(1), nil}, api.ErrOver},
		"another shape, then over":   {3, [][]int64{list(top), nil, list(1)}, api.ErrShape},
	} {
		if got, e := linear.Mean(x.n, x.l...); len(got) != 0 || e != x.want {
			t.Errorf("%s: got %v, %d, not %d", name, got, e, x.want)
		}
	}
}

// bent is a line, samples, how it is to be bent, and how bad it is, or that this goes over, as another program works them out.
type bent struct {
	frac int
	w    []int64
	l    []api.Sample
	grad []int64
	loss int64
	e    api.Errno
}

func bents() []bent {
	sixteen := list(-3, 2, 5, 7, -11, 13, -17, 19, -23, 29, -31, 37, -41, 43, -47, 53, 99)
	return []bent{
		{0, list(2, 3, 1), []api.Sample{seen(320, 10, 100), seen(5, 1, -1)}, list(2, 52, -2), 26, api.OK},
		{4, list(2, 3, 1), []api.Sample{seen(320, 10, 100), seen(5, 1, -1)}, list(-95, -938, -153), 5626, api.OK},
		{1, list(1, 1, 0), []api.Sample{seen(0, 1, 1)}, list(0, 0, 0), 0, api.OK},
		{1, list(-1, -1, 0), []api.Sample{seen(0, 1, 1)}, list(-1, -1, -2), 2, api.OK},
		{0, list(5, -7), []api.Sample{seen(0, 3), seen(10, -4), seen(-7, 0)}, list(57, -10), 1433, api.OK},
		{16, list(65536, -32768, 16384), []api.Sample{seen(0, 131072, 65536), seen(40000, -65536, 98304), seen(-9, 12345, -54321)}, list(126069, -46367, 10760), 540251, api.OK},
		{30, list(1<<30, 3), []api.Sample{seen(1<<40, 1<<40), seen(5, -1<<31-1)}, list(2147485188, -1073741824), 4294967308, api.OK},
		{3, sixteen, []api.Sample{
			seen(100, 1, 2, 3, 4, 5, 6, 7, 8, 9, 10, 11, 12, 13, 14, 15, 16),
			seen(-100, -16, 15, -14, 13, -12, 11, -10, 9, -8, 7, -6, 5, -4, 3, -2, 1),
			seen(99, many(16, 0)...),
		}, list(-286, 274, -246, 243, -205, 211, -164, 180, -124, 148, -83, 117, -43, 86, -2, 54, 162), 23706, api.OK},
		{0, list(0, 0), []api.Sample{seen(1, 0), seen(0, 1), seen(0, 0)}, list(0, -1), 1, api.OK},
		{0, list(0, 0), []api.Sample{seen(-1, 7), seen(-1, -7), seen(0, 5), seen(0, 5)}, list(0, 0), 2, api.OK},
		// One bit behind the point: 1 by 1 is nothing, of every sample by itself.
		{1, list(0, 0), batch(4, seen(-1, 1)), list(0, 1), 0, api.OK},
		{1, list(0, 0), batch(4, seen(1, 1)), list(-1, -1), 0, api.OK},
		// At the edges: the parts are of the sum.
		{0, list(0, 0), []api.Sample{seen(-top, 0), seen(top, 1), seen(-top, 1)}, list(0, top/3), 0, api.ErrOver},
		{0, list(0, low), batch(1, seen(0, 1)), list(low, low), 0, api.ErrOver},
		{0, list(0, 0), batch(64, seen(-top/64, 1)), list(top/64, top/64), 0, api.ErrOver},
	}
}

// P14.3: Grad.
func TestGrad(t *testing.T) {
	for _, x := range bents() {
		if got, e := linear.Grad(x.w, x.frac, x.l...); !slices.Equal(got, x.grad) || e != api.OK {
			t.Errorf("Grad(%v, %d, %v): got %v, %d, not %v", x.w, x.frac, x.l, got, e, x.grad)
		}
	}
}

// P14.3: Loss.
func TestLoss(t *testing.T) {
	for _, x := range bents() {
		if got, e := linear.Loss(x.w, x.frac, x.l...); got != x.loss || e != x.e {
			t.Errorf("Loss(%v, %d, %v): got %d, %d, not %d, %d", x.w, x.frac, x.l, got, e, x.loss, x.e)
		}
	}
}

// P14.3: errors that Grad and Loss both tell: Check's, ahead of Off's, which is any sample's.
func TestGradAndLossErrors(t *testing.T) {
	w, good, over := list(1, 1, 0), seen(3, 1, 2), seen(3, top, top)
	for name, x := range map[string]struct {
		frac int
		w    []int64
		l    []api.Sample
		want api.Errno
	}{
		"no line":                             {0, nil, batch(1, good), api.ErrArg},
		"a line that is a base alone":         {0, list(5), batch(1, seen(0)), api.ErrArg},
		"a line that sees too many":           {0, many(18, 1), batch(1, seen(0, many(17, 1)...)), api.ErrArg},
		"a line that sees too many, a shape":  {0, many(18, 1), batch(1, good), api.ErrArg},
		"a line longer than a vector":         {0, many(api.MaxDim+1, 1), batch(1, good), api.ErrArg},
		"no samples":                          {0, w, nil, api.ErrArg},
		"no samples, a bit too many":          {31, w, nil, api.ErrArg},
		"a sample too many":                   {0, w, batch(65, good), api.ErrArg},
		"a sample too many, and over":         {0, w, batch(65, over), api.ErrArg},
		"a sample of none":                    {0, w, batch(1, seen(0)), api.ErrShape},
		"a sample too short":                  {0, w, []api.Sample{good, seen(1, 2)}, api.ErrShape},
		"a sample too long":                   {0, w, []api.Sample{seen(1, 2, 3, 4), good}, api.ErrShape},
		"too many, the last too short":        {0, w, append(batch(64, good), seen(1, 2)), api.ErrShape},
		"over, the last too short":            {0, w, []api.Sample{over, seen(1, 2)}, api.ErrShape},
		"a bit too many, the last too short":  {31, w, []api.Sample{good, seen(1, 2)}, api.ErrShape},
		"a bit too many":                      {31, w, batch(1, good), api.ErrArg},
		"a bit below none":                    {-1, w, batch(1, good), api.ErrArg},
		"far too many bits":                   {math.MaxInt, w, batch(2, good), api.ErrArg},
		"a bit too many, and over":            {31, w, batch(1, over), api.ErrArg},
		"told over":                           {0, w, batch(1, over), api.ErrOver},
		"the second told over":                {0, w, []api.Sample{good, over, good}, api.ErrOver},
		"the last of all told over":           {0, w, append(batch(63, good), over), api.ErrOver},
		"a product over":                      {0, list(top, 0, top), batch(1, seen(0, 2, 0)), api.ErrOver},
		"over with the base":                  {0, list(top, 0, top), batch(1, seen(0, 1, 0)), api.ErrOver},
		"off over":                            {0, list(1, 1, 1), batch(1, seen(-top, 0, 0)), api.ErrOver},
		"off over below, behind a good one":   {0, list(1, 1, -2), []api.Sample{seen(0, 1, 1), seen(top, 0, 0)}, api.ErrOver},
		"off over, of one that sees nothing":  {30, list(0, 0, 0), batch(1, seen(low, 0, 0)), api.ErrOver},
		"off over, and as far the other way":  {0, list(0, 1), []api.Sample{seen(-top, 0), seen(top, 0)}, api.ErrOver},
		"told over, but what is to be is far": {0, w, batch(1, seen(top, top, 1)), api.ErrOver},
	} {
		if got, e := linear.Grad(x.w, x.frac, x.l...); len(got) != 0 || e != x.want {
			t.Errorf("Grad, %s: got %v, %d, not %d", name, got, e, x.want)
		}
		if got, e := linear.Loss(x.w, x.frac, x.l...); got != 0 || e != x.want {
			t.Errorf("Loss, %s: got %d, %d, not %d", name, got, e, x.want)
		}
	}
}

// P14.3: what bends a line goes over, though none is off over; of the loss that is no error.
func TestGradAlone(t *testing.T) {
	line := list(1, -1<<62)
	for name, x := range map[string]struct {
		w    []int64
		l    []api.Sample
		want int64
	}{
		"a product":                 {line, batch(1, seen(4, 1<<62)), 16},
		"a product, behind":         {line, []api.Sample{seen(4, 1<<62), seen(0, 1<<62)}, 16},
		"a product below":           {line, batch(1, seen(-3, 1<<62)), 9},
		"products, the other way":   {line, []api.Sample{seen(-3, 1<<62), seen(3, 1<<62)}, 18},
		"the sum":                   {list(1, -top/2), batch(2, seen(-2, top/2)), 8},
		"the sum on the way":        {list(1, -top/2), []api.Sample{seen(-2, top/2), seen(-2, top/2), seen(2, top/2)}, 12},
		"the sum of the last place": {list(0, 1, -top/2), batch(2, seen(-2, 0, top/2)), 8},
	} {
		if got, e := linear.Grad(x.w, 0, x.l...); len(got) != 0 || e != api.ErrOver {
			t.Errorf("Grad, %s: got %v, %d", name, got, e)
		}
		if got, e := linear.Loss(x.w, 0, x.l...); got != x.want || e != api.OK {
			t.Errorf("Loss, %s: got %d, %d, not %d", name, got, e, x.want)
		}
	}
}

// P14.3: what is off goes over when it is summed; so far as the sum's order tells, that is from the first sample on.
func TestGradSumsFromTheFirstOn(t *testing.T) {
	w := list(0, 0)
	much, one, less := seen(-top, 0), seen(-1, 0), seen(1, 0)
	if got, e := linear.Grad(w, 0, much, one, less); len(got) != 0 || e != api.ErrOver {
		t.Errorf("got %v, %d", got, e)
	}
	if got, e := linear.Grad(w, 0, much, less, one); !slices.Equal(got, list(0, top/3)) || e != api.OK {
		t.Errorf("got %v, %d", got, e)
	}
}

// P14.3: a loss goes over, by a square or by the sum, though the line can be bent.
func TestLossOver(t *testing.T) {
	const root = 3037000499
	// All these squares together are the greatest number.
	edge := []api.Sample{seen(root, 0), seen(-76996, 0), seen(377, 0), seen(-25, 0), seen(6, 0)}
	for name, x := range map[string]struct {
		frac int
		l    []api.Sample
		want int64
		e    api.Errno
	}{
		"the greatest square":          {0, batch(1, seen(root, 0)), root * root, api.OK},
		"a square over":                {0, batch(1, seen(root+1, 0)), 0, api.ErrOver},
		"the first square over":        {0, []api.Sample{seen(-root-1, 0), seen(0, 0)}, 0, api.ErrOver},
		"the last square over":         {0, []api.Sample{seen(1, 0), seen(2, 0), seen(-root-1, 0)}, 0, api.ErrOver},
		"up to the edge":               {0, edge, top, api.OK},
		"over it by 1":                 {0, append(edge, seen(1, 0)), 0, api.ErrOver},
		"over it by 1, the first":      {0, append([]api.Sample{seen(1, 0)}, edge...), 0, api.ErrOver},
		"the sum over":                 {0, batch(2, seen(1<<31, 0)), 0, api.ErrOver},
		"so much off with thirty bits": {30, batch(1, seen(1<<46, 0)), 1 << 62, api.OK},
		"far off with thirty bits":     {30, batch(2, seen(-1<<46, 0)), 0, api.ErrOver},
	} {
		if got, e := linear.Loss(list(0, 0), x.frac, x.l...); got != x.want || e != x.e {
			t.Errorf("%s: got %d, %d, not %d, %d", name, got, e, x.want, x.e)
		}
		if _, e := linear.Grad(list(0, 0), x.frac, x.l...); e != api.OK {
			t.Errorf("%s: got %d", name, e)
		}
	}
}
