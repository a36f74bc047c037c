package soft_test

import (
	"math"
	"slices"
	"testing"

	"thrum/api"
	"thrum/soft"
)

// bent are lines, samples, how the lines are to be bent, and of how many samples they tell the class, as another program works them out.
type bent struct {
	frac, out int
	w         []int64
	l         []api.Sample
	grad      []int64
	right     int
}

func bents() []bent {
	sixteen := list(-3, 2, 5, 7, -11, 13, -17, 19, -23, 29, -31, 37, -41, 43, -47, 53, 99, 3, -2, -5, -7, 11, -13, 17, -19, 23, -29, 31, -37, 41, -43, 47, -53, 90)
	three, even := list(16, 0, -16, 0, 0, 8), many(4, 0)
	return []bent{
		{4, 3, three, []api.Sample{seen(2, 0), seen(1, 16)}, list(4, 6, -7, -5, 2, -3), 1},
		{4, 3, three, []api.Sample{seen(2, 0), seen(1, 16), seen(0, -160), seen(0, 5), seen(2, -7)}, list(32, -3, -36, 3, 2, -2), 2},
		{8, 4, list(256, 0, 0, 0, 256, 0, -256, 0, 0, 0, -256, 64), []api.Sample{
			seen(0, 256, 128), seen(2, -300, 10), seen(1, 0, 0), seen(2, 10, -300), seen(1, 0, 2000),
		}, list(-35, -27, -3, 2, -1, -10, 35, 49, -52, -5, -27, 62), 3},
		{16, 2, list(65536, -32768, 1000, -65536, 32768, 0), []api.Sample{
			seen(1, 65536, 65536), seen(1, -70000, 12345), seen(0, 0, 0), seen(1, 3, 3),
		}, list(7883, 11458, 13768, -7884, -11460, -13769), 2},
		{30, 2, list(1<<30, 0, 0, 0), []api.Sample{seen(1, 1<<29), seen(0, -1<<28), seen(1, 1<<35)}, list(11606682620, 373151347, -11606682621, -373151348), 0},
		{6, 2, sixteen, []api.Sample{
			seen(1, 1, 2, 3, 4, 5, 6, 7, 8, 9, 10, 11, 12, 13, 14, 15, 16),
			seen(0, 16, -15, 14, -13, 12, -11, 10, -9, 8, -7, 6, -5, 4, -3, 2, -1),
			seen(1, many(16, 0)...),
		}, list(-4, 3, -3, 3, -2, 3, -2, 3, -1, 3, 0, 3, 1, 2, 2, 3, 9, 3, -4, 2, -4, 1, -4, 0, -4, -1, -4, -2, -4, -2, -4, -3, -4, -11), 0},
		{10, 8, list(-1500, -390, 720, -1200, -90, 1020, -900, 210, 1320, -600, 510, -1410, -300, 810, -1110, 0, 1110, -810, 300, 1410, -510, 600, -1320, -210), []api.Sample{
			seen(7, 1000, -500), seen(0, -2000, 300), seen(3, 5, 6),
		}, list(479, -85, -129, -147, 4, 227, -106, -8, 247, -11, -5, -306, -2, -6, 42, 5, -9, 50, 14, -13, 62, -236, 115, -200), 2},
		{4, 2, even, batch(1, seen(0, 3)), list(-2, -8, 1, 8), 1},
		{4, 2, even, batch(1, seen(1, 3)), list(1, 8, -2, -8), 0},
		{4, 2, even, batch(1, seen(0, -3)), list(1, -8, -2, 8), 1},
		{4, 2, even, batch(64, seen(0, 7)), list(-4, -8, 3, 8), 64},
		// Halves that no bit is there for: only the class is off.
		{0, 2, even, batch(1, seen(0, 3)), list(-3, -1, 0, 0), 1},
		{0, 2, even, []api.Sample{seen(0, 3), seen(0, 3), seen(1, -8)}, list(-2, -1, 2, -1), 2},
		// One bit behind the point: 1 by 1 is nothing, of every sample by itself.
		{1, 2, even, batch(3, seen(0, 1)), list(-1, -1, 0, 1), 3},
		{1, 2, even, []api.Sample{seen(0, 1), seen(1, 1)}, list(-1, 0, -1, 0), 1},
		{0, 3, list(1, 0, 0, 0, -1, 0), []api.Sample{seen(0, 5), seen(2, -5), seen(0, 1)}, many(6, 0), 3},
		// At the edges: what is seen is taken whole, either way.
		{0, 2, list(0, 9, 0, 0), batch(1, seen(1, top)), list(top, 1, -top, -1), 0},
		{0, 2, list(0, 9, 0, 0), batch(1, seen(1, -top)), list(-top, 1, top, -1), 0},
		{0, 2, list(0, 9, 0, 0), []api.Sample{seen(0, low), seen(0, 5)}, many(4, 0), 2},
		{0, 2, list(0, 9, 0, 0), []api.Sample{seen(1, top), seen(1, -top), seen(1, 9)}, list(3, 1, -3, -1), 0},
		{30, 2, list(0, 1<<35, 0, 0), batch(1, seen(1, top)), list(top, 1<<30, -top, -1<<30), 0},
		{1, 2, even, batch(1, seen(1, top)), list(1<<62-1, 1, -1<<62, -1), 0},
		{1, 2, even, batch(1, seen(1, low)), list(-1<<62, 1, 1<<62, -1), 0},
		{1, 2, even, []api.Sample{seen(1, low), seen(1, top)}, list(-1, 1, 0, -1), 0},
	}
}

// P15.3: Grad.
func TestGrad(t *testing.T) {
	for _, x := range bents() {
		if got, e := soft.Grad(x.out, x.w, x.frac, x.l...); !slices.Equal(got, x.grad) || e != api.OK {
			t.Errorf("Grad(%d, %v, %d, %v): got %v, %d, not %v", x.out, x.w, x.frac, x.l, got, e, x.grad)
		}
	}
}

// P15.3: Right.
func TestRight(t *testing.T) {
	for _, x := range bents() {
		if got, e := soft.Right(x.out, x.w, x.frac, x.l...); got != x.right || e != api.OK {
			t.Errorf("Right(%d, %v, %d, %v): got %d, %d, not %d", x.out, x.w, x.frac, x.l, got, e, x.right)
		}
	}
}

// P15.3: of those lines that tell as much the first one's class is right.
func TestRightOfSome(t *testing.T) {
	for name, x := range map[string]struct {
		w    []int64
		l    []api.Sample
		want int
	}{
		"all lines the same":    {many(6, 3), []api.Sample{seen(0, 1), seen(1, 1), seen(2, 1), seen(0, -9)}, 2},
		"the last two the same": {list(0, 1, 0, 2, 0, 2), []api.Sample{seen(0, 1), seen(1, 1), seen(2, 1)}, 1},
		"none":                  {list(0, 1, 0, 2, 0, 2), batch(64, seen(2, 1)), 0},
		"all":                   {list(0, 1, 0, 2, 0, 2), batch(64, seen(1, 1)), 64},
		"the last alone":        {list(0, 1, 0, 2, 0, 3), append(batch(63, seen(1, 1)), seen(2, 1)), 1},
		"next to the least":     {list(0, low, 0, low+1, 0, low), []api.Sample{seen(1, 7), seen(2, 7)}, 1},
	} {
		for _, frac := range []int{0, 1, 16, 30} {
			if got, e := soft.Right(3, x.w, frac, x.l...); got != x.want || e != api.OK {
				t.Errorf("%s, %d: got %d, %d, not %d", name, frac, got, e, x.want)
			}
		}
	}
}

// P15.3: errors that Grad and Right both tell: Rows', Check's, and of bits that may not be, or a line that goes over, at any sample.
func TestGradAndRightErrors(t *testing.T) {
	w, good, over := list(1, 0, -1, 0), seen(0, 3), seen(1, top)
	edge := list(2, 0, -1, 0)
	short, long, above, below := seen(0), seen(0, 1, 2), seen(2, 3), seen(-1, 3)
	for name, x := range map[string]struct {
		frac, out int
		w         []int64
		l         []api.Sample
		want      api.Errno
	}{
		"one class":                            {0, 1, list(1, 0), batch(1, good), api.ErrArg},
		"no class":                             {0, 0, nil, nil, api.ErrArg},
		"no class, no sample":                  {0, 0, w, nil, api.ErrArg},
		"nine classes":                         {0, 9, many(18, 0), batch(1, good), api.ErrArg},
		"far too many classes":                 {0, math.MaxInt, w, batch(1, good), api.ErrArg},
		"far fewer classes than none":          {0, math.MinInt, w, batch(1, good), api.ErrArg},
		"nine classes, a sample too long":      {0, 9, many(18, 0), batch(1, long), api.ErrArg},
		"no lines":                             {0, 2, nil, batch(1, good), api.ErrShape},
		"no lines, no samples":                 {0, 2, nil, nil, api.ErrShape},
		"bases alone":                          {0, 2, list(1, 2), batch(1, short), api.ErrShape},
		"a number too few":                     {0, 2, w[:3], batch(1, good), api.ErrShape},
		"a number too few, no samples":         {0, 2, w[:3], nil, api.ErrShape},
		"a number too many, too many samples":  {0, 2, many(5, 0), batch(65, good), api.ErrShape},
		"a number too few, a class above":      {0, 2, w[:3], batch(1, above), api.ErrShape},
		"a number too few, a bit too many":     {31, 2, w[:3], batch(1, good), api.ErrShape},
		"lines that see too many":              {0, 2, many(36, 0), batch(1, seen(0, many(17, 1)...)), api.ErrShape},
		"lines longer than a vector":           {0, 2, many(2*api.MaxDim+2, 0), batch(1, good), api.ErrShape},
		"no samples":                           {0, 2, w, nil, api.ErrArg},
		"no samples, a bit too many":           {31, 2, w, nil, api.ErrArg},
		"a sample too many":                    {0, 2, w, batch(65, good), api.ErrArg},
		"a sample too many, and over":          {0, 2, edge, batch(65, over), api.ErrArg},
		"a sample too short":                   {0, 2, w, batch(1, short), api.ErrShape},
		"the first too short":                  {0, 2, w, []api.Sample{short, good}, api.ErrShape},
		"the last too long":                    {0, 2, w, append(batch(63, good), long), api.ErrShape},
		"too many, the last too long":          {0, 2, w, append(batch(64, good), long), api.ErrShape},
		"over, the last too long":              {0, 2, edge, []api.Sample{over, long}, api.ErrShape},
		"a bit too many, the last too long":    {31, 2, w, []api.Sample{good, long}, api.ErrShape},
		"a class above, another one too long":  {0, 2, w, []api.Sample{above, long}, api.ErrShape},
		"a class above":                        {0, 2, w, batch(1, above), api.ErrArg},
		"a class below":                        {0, 2, w, batch(1, below), api.ErrArg},
		"the last class above":                 {0, 2, w, append(batch(63, good), above), api.ErrArg},
		"over, then a class below":             {0, 2, edge, []api.Sample{over, below}, api.ErrArg},
		"over, and of a class above":           {0, 2, edge, batch(1, seen(2, top)), api.ErrArg},
		"a bit too many":                       {31, 2, w, batch(1, good), api.ErrArg},
		"a bit below none":                     {-1, 2, w, batch(1, good), api.ErrArg},
		"far too many bits":                    {math.MaxInt, 2, w, batch(2, good), api.ErrArg},
		"bits far below none":                  {math.MinInt, 2, w, batch(2, good), api.ErrArg},
		"a bit too many, and over":             {31, 2, edge, batch(1, over), api.ErrArg},
		"the first line over":                  {0, 2, edge, batch(1, over), api.ErrOver},
		"the second line over":                 {0, 2, list(0, 0, -1, 0), batch(1, seen(0, low)), api.ErrOver},
		"the second sample over":               {0, 2, edge, []api.Sample{good, over, good}, api.ErrOver},
		"the last of all samples over":         {0, 2, edge, append(batch(63, good), over), api.ErrOver},
		"over with a base":                     {0, 2, list(0, 0, 1, 1), batch(1, seen(0, top)), api.ErrOver},
		"over with a base, bits":               {30, 2, list(1<<30, top, 0, 0), batch(1, seen(0, 1)), api.ErrOver},
		"over on the way":                      {0, 2, list(1, 1, 1, 0, 0, 0, 0, 0), batch(1, seen(1, top, 1, -1)), api.ErrOver},
		"over by a product that is taken back": {0, 2, list(2, -2, 0, 0, 0, 0), batch(1, seen(0, top, top)), api.ErrOver},
	} {
		if got, e := soft.Grad(x.out, x.w, x.frac, x.l...); len(got) != 0 || e != x.want {
			t.Errorf("Grad, %s: got %v, %d, not %d", name, got, e, x.want)
		}
		if got, e := soft.Right(x.out, x.w, x.frac, x.l...); got != 0 || e != x.want {
			t.Errorf("Right, %s: got %d, %d, not %d", name, got, e, x.want)
		}
	}
}

// P15.3: how lines are to be bent goes over, though classes can be told.
func TestGradAlone(t *testing.T) {
	first, much := list(0, 9, 0, 0), seen(1, top)
	for name, x := range map[string]struct {
		out  int
		w    []int64
		l    []api.Sample
		want int
	}{
		"numbers too far apart":            {2, list(1, 0, 0, 0), batch(1, seen(1, low)), 1},
		"the last sample's too far apart":  {2, list(1, 0, 0, 0), append(batch(63, seen(0, 1)), seen(1, low)), 64},
		"the first sample's too far apart": {2, list(1, 0, 0, 0), []api.Sample{seen(0, low), seen(0, 1)}, 1},
		"what is seen, taken whole":        {2, first, batch(1, seen(1, low)), 0},
		"so of the last sample":            {2, first, append(batch(63, seen(0, 1)), seen(1, low)), 63},
		"so of the last line":              {3, list(0, 0, 0, 9, 0, 0), batch(1, seen(2, low)), 0},
		"so of the last number":            {2, list(0, 0, 9, 0, 0, 0), batch(1, seen(1, 0, low)), 0},
		"the sum":                          {2, first, []api.Sample{much, seen(1, 1)}, 0},
		"the sum below":                    {2, first, []api.Sample{seen(1, -top), seen(1, -2)}, 0},
		"the sum of the second line":       {2, first, []api.Sample{seen(1, -top), seen(1, -1)}, 0},
		"the sum on the way":               {2, first, []api.Sample{much, seen(1, 1), seen(1, -1)}, 0},
		"the sum of the last number":       {2, list(0, 0, 9, 0, 0, 0), batch(2, seen(1, 0, top/2+1)), 0},
	} {
		if got, e := soft.Grad(x.out, x.w, 0, x.l...); len(got) != 0 || e != api.ErrOver {
			t.Errorf("Grad, %s: got %v, %d", name, got, e)
		}
		if got, e := soft.Right(x.out, x.w, 0, x.l...); got != x.want || e != api.OK {
			t.Errorf("Right, %s: got %d, %d, not %d", name, got, e, x.want)
		}
	}
}

// P15.3: what bends lines is summed up from the first sample on.
func TestGradSumsFromTheFirstOn(t *testing.T) {
	w := list(0, 9, 0, 0)
	much, one, less := seen(1, top), seen(1, 1), seen(1, -1)
	if got, e := soft.Grad(2, w, 0, much, one, less); len(got) != 0 || e != api.ErrOver {
		t.Errorf("got %v, %d", got, e)
	}
	if got, e := soft.Grad(2, w, 0, much, less, one); !slices.Equal(got, list(top/3, 1, -top/3-1, -1)) || e != api.OK {
		t.Errorf("got %v, %d", got, e)
	}
}
