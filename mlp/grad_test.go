package mlp_test

import (
	"math"
	"slices"
	"testing"

	"thrum/api"
	"thrum/mlp"
)

// bent are two layers, samples, and how the layers are to be bent, as another program works it out.
type bent struct {
	frac, hid int
	w         []int64
	l         []api.Sample
	grad      []int64
}

func bents() []bent {
	one, two := list(2, -5, 10, 1), list(2, -5, -1, 1, 10, 100, 1)
	sixteen := list(-3, 2, 5, 7, -11, 13, -17, 19, -23, 29, -31, 37, -41, 43, -47, 53, 99, 3, -2, -5, -7, 11, -13, 17, -19, 23, -29, 31, -37, 41, -43, 47, -53, 90, 50, -60, 7)
	fine, half := list(1<<30, 0, -1<<29, 1<<28, 1<<29, -1<<31, 12345), list(3, 1, -3, 1, 1, 1, 0)
	return []bent{
		{0, 1, one, batch(1, seen(9, 3)), list(60, 20, 2, 2)},
		{0, 1, one, batch(1, seen(7, 2)), list(0, 0, 0, -6)},
		{0, 1, one, []api.Sample{seen(9, 3), seen(7, 2), seen(1, -4), seen(131, 9)}, list(15, 5, 0, -1)},
		{0, 2, two, batch(1, seen(9, 3)), list(60, 20, 0, 0, 2, 0, 2)},
		{0, 2, two, batch(1, seen(202, -1)), list(0, 0, 100, -100, 0, -2, -1)},
		{0, 2, two, []api.Sample{seen(9, 3), seen(202, -1), seen(0, 2), seen(50, 0)}, list(15, 5, 25, 1250, 0, 12, 13)},
		{0, 2, two, batch(64, seen(9, 3)), list(60, 20, 0, 0, 2, 0, 2)},
		{0, 3, list(1, 2, 3, -1, -2, 4, 5, 0, -7, 2, -3, 4, 11), []api.Sample{
			seen(40, 1, 1), seen(-5, -3, 2), seen(7, 4, -4), seen(11, 0, 0), seen(0, -2, -2),
		}, list(-26, 4, -5, -61, 48, -2, 102, -103, 25, -16, 13, 83, 0)},
		{4, 2, list(16, -8, 4, -24, 8, 40, 20, -10, 3), []api.Sample{
			seen(10, 16, 0), seen(0, 32, -16), seen(55, 0, 80), seen(2, -40, -40), seen(-3, 7, 9),
		}, list(29, -16, 14, -16, 48, 18, 33, -153, -19)},
		{8, 4, list(256, 0, 0, 0, 256, 0, -256, 0, 0, 0, -256, 64, 128, -64, 300, -500, 77), []api.Sample{
			seen(100, 256, 128), seen(-40, -300, 10), seen(0, 0, 0), seen(9, 10, -300), seen(12, 1, 2000),
		}, list(4, -263, -101, 17, 165, -1, -99, 3, 84, 174, -298, 127, 9, -670, 84, -169, -138)},
		{16, 3, list(65536, -32768, 1000, -65536, 32768, 0, 70000, 80000, -90000, 30000, -45000, 12345, -777), []api.Sample{
			seen(3, 65536, 65536), seen(400, -70000, 12345), seen(-5, 0, 0), seen(90000, 3, 3),
		}, list(2972, 2972, -7400, -9806, 1729, 9180, 1223, 1223, 1223, 3000, -15541, 5946, -29534)},
		{30, 2, fine, []api.Sample{seen(1<<27, 1<<29), seen(5, -1<<28), seen(-1<<30, 1<<35)},
			list(97363843716, 3064642237, -134215672, 536862685, 194727687444, -100661754, 5860853132)},
		{30, 1, list(1, -1, 1<<30, 0), []api.Sample{seen(0, 1), seen(1, 1<<30), seen(1, 5<<30)}, list(5, 1, 0, 0)},
		// A half is nothing, less than nothing is one less: of every part by itself.
		{1, 2, half, batch(1, seen(0, 1)), list(0, 0, 0, 0, 1, 0, 1)},
		{1, 2, half, batch(1, seen(2, 1)), list(-1, -1, 0, 0, -1, 0, -1)},
		{1, 2, half, []api.Sample{seen(0, 1), seen(0, -1), seen(9, 2), seen(-9, -2)}, list(-1, -1, -2, 1, -4, 5, 1)},
		{6, 2, sixteen, []api.Sample{
			seen(100, 1, 2, 3, 4, 5, 6, 7, 8, 9, 10, 11, 12, 13, 14, 15, 16),
			seen(-7, 16, -15, 14, -13, 12, -11, 10, -9, 8, -7, 6, -5, 4, -3, 2, -1),
			seen(1, many(16, 0)...),
		}, list(-4, 1, -4, 0, -5, -1, -5, -2, -5, -3, -6, -4, -6, -5, -6, -6, -35, 3, -3, 3, -2, 4, 0, 4, 1, 5, 2, 5, 3, 6, 5, 6, 6, 40, -60, -60, -44)},
		{10, 8, list(-1500, -390, 720, -1200, -90, 1020, -900, 210, 1320, -600, 510, -1410, -300, 810, -1110, 0, 1110, -810, 300, 1410, -510, 600, -1320, -210, 1000, -2000, 300, -400, 500, -600, 700, 800, -90), []api.Sample{
			seen(777, 1000, -500), seen(0, -2000, 300), seen(-31, 5, 6),
		}, list(1420, -216, -1041, -2841, 429, 2081, 428, -67, -310, 0, 0, 0, 0, 0, 0, 0, 0, 0, 0, 0, 0, 6, -4, 7, -2795, -2746, -2694, 0, 0, 0, 0, 9, -1057)},
		// At the edges.
		{0, 1, list(0, 1, 1, 0), batch(1, seen(2, top)), list(-top, -1, -1, -1)},
		{0, 1, list(0, 1, 1, 0), batch(1, seen(0, low)), list(low, 1, 1, 1)},
		{0, 1, list(0, 1, -1, 0), batch(1, seen(-2, top)), list(-top, -1, 1, 1)},
		{0, 1, list(0, 1, top, -top), batch(1, seen(-1, 1)), list(top, top, 1, 1)},
		{0, 1, list(0, top, 0, 1), batch(1, seen(0, 5)), list(0, 0, top, 1)},
		{0, 1, list(0, 1, 0, top), batch(1, seen(0, 5)), list(0, 0, top, top)},
		{0, 1, list(0, 1, 0, top), []api.Sample{seen(0, 5), seen(top, 6), seen(top, 7)}, list(0, 0, top/3, top/3)},
		{0, 1, list(0, 1, 1, 0), []api.Sample{seen(0, low), seen(2, low+1), seen(0, 5)}, list(1, 0, 0, 0)},
	}
}

// P16.3: Grad.
func TestGrad(t *testing.T) {
	for _, x := range bents() {
		if got, e := mlp.Grad(x.hid, x.w, x.frac, x.l...); !slices.Equal(got, x.grad) || e != api.OK {
			t.Errorf("Grad(%d, %v, %d, %v): got %v, %d, not %v", x.hid, x.w, x.frac, x.l, got, e, x.grad)
		}
	}
}

// P16.3: a line that hides 0 is off nothing, be it that it tells just that, and whatever the last line's number there; the last line is bent all the same.
func TestALineThatHidesNothing(t *testing.T) {
	for name, x := range map[string]struct {
		w    []int64
		s    api.Sample
		want []int64
	}{
		"it tells below 0":           {list(1, -9, 1, 0, 5, 3, 0), seen(0, 4), list(0, 0, 144, 36, 0, 48, 12)},
		"it tells just 0":            {list(1, -4, 1, 0, 5, 3, 0), seen(0, 4), list(0, 0, 144, 36, 0, 48, 12)},
		"it tells just above":        {list(1, -3, 1, 0, 5, 3, 0), seen(0, 4), list(340, 85, 204, 51, 17, 68, 17)},
		"the second tells just 0":    {list(1, 0, 0, 0, 5, 3, 0), seen(0, 4), list(400, 100, 0, 0, 80, 0, 20)},
		"both tell just 0":           {list(0, 0, 0, 0, 5, 3, 7), seen(0, 4), list(0, 0, 0, 0, 0, 0, 7)},
		"its number would go over":   {list(1, -4, 0, 1, top, 3, 0), seen(0, 4), list(0, 0, 36, 9, 0, 3, 3)},
		"it is below, it would, too": {list(1, low, 0, 1, low, 3, 0), seen(0, 4), list(0, 0, 36, 9, 0, 3, 3)},
	} {
		if got, e := mlp.Grad(2, x.w, 0, x.s); !slices.Equal(got, x.want) || e != api.OK {
			t.Errorf("%s: got %v, %d, not %v", name, got, e, x.want)
		}
	}
}

// P16.3: errors ahead of all bending: Split's, Check's, and of bits that may not be, or of what goes over on the way to what is told, at any sample.
func TestGradErrors(t *testing.T) {
	w, good := list(1, 0, -1, 0, 1, 1, 0), seen(0, 3)
	edge, over := list(2, 0, -1, 0, 0, 0, 0), seen(0, top)
	short, long := seen(0), seen(0, 1, 2)
	for name, x := range map[string]struct {
		frac, hid int
		w         []int64
		l         []api.Sample
		want      api.Errno
	}{
		"no line between":                     {0, 0, list(1), batch(1, good), api.ErrArg},
		"no line between, no numbers":         {0, 0, nil, nil, api.ErrArg},
		"no line between, no sample":          {0, 0, w, nil, api.ErrArg},
		"nine lines":                          {0, 9, many(28, 0), batch(1, good), api.ErrArg},
		"far too many lines":                  {0, math.MaxInt, w, batch(1, good), api.ErrArg},
		"far fewer lines than none":           {0, math.MinInt, w, batch(1, good), api.ErrArg},
		"nine lines, a sample too long":       {0, 9, many(28, 0), batch(1, long), api.ErrArg},
		"no layers":                           {0, 2, nil, batch(1, good), api.ErrShape},
		"no layers, no samples":               {0, 2, nil, nil, api.ErrShape},
		"bases and the last line":             {0, 2, many(5, 1), batch(1, short), api.ErrShape},
		"a number too few":                    {0, 2, w[:6], batch(1, good), api.ErrShape},
		"a number too few, no samples":        {0, 2, w[:6], nil, api.ErrShape},
		"a number too many, too many samples": {0, 2, many(8, 0), batch(65, good), api.ErrShape},
		"a number too few, a bit too many":    {31, 2, w[:6], batch(1, good), api.ErrShape},
		"lines that see too many":             {0, 2, many(39, 0), batch(1, seen(0, many(17, 1)...)), api.ErrShape},
		"lines longer than a vector":          {0, 2, many(2*api.MaxDim+5, 0), batch(1, good), api.ErrShape},
		"no samples":                          {0, 2, w, nil, api.ErrArg},
		"no samples, a bit too many":          {31, 2, w, nil, api.ErrArg},
		"a sample too many":                   {0, 2, w, batch(65, good), api.ErrArg},
		"a sample too many, and over":         {0, 2, edge, batch(65, over), api.ErrArg},
		"a sample too short":                  {0, 2, w, batch(1, short), api.ErrShape},
		"the first too short":                 {0, 2, w, []api.Sample{short, good}, api.ErrShape},
		"the last too long":                   {0, 2, w, append(batch(63, good), long), api.ErrShape},
		"too many, the last too long":         {0, 2, w, append(batch(64, good), long), api.ErrShape},
		"over, the last too long":             {0, 2, edge, []api.Sample{over, long}, api.ErrShape},
		"a bit too many, the last too long":   {31, 2, w, []api.Sample{good, long}, api.ErrShape},
		"a bit too many":                      {31, 2, w, batch(1, good), api.ErrArg},
		"a bit below none":                    {-1, 2, w, batch(1, good), api.ErrArg},
		"far too many bits":                   {math.MaxInt, 2, w, batch(2, good), api.ErrArg},
		"bits far below none":                 {math.MinInt, 2, w, batch(2, good), api.ErrArg},
		"a bit too many, and over":            {31, 2, edge, batch(1, over), api.ErrArg},
		"the first line over":                 {0, 2, edge, batch(1, over), api.ErrOver},
		"the second line over":                {0, 2, list(0, 0, -1, 0, 0, 0, 0), batch(1, seen(0, low)), api.ErrOver},
		"the second sample over":              {0, 2, edge, []api.Sample{good, over, good}, api.ErrOver},
		"the last of all samples over":        {0, 2, edge, append(batch(63, good), over), api.ErrOver},
		"over with a base":                    {0, 2, list(0, 0, 1, 1, 0, 0, 0), batch(1, seen(0, top)), api.ErrOver},
		"over on the way":                     {0, 1, list(1, 1, 1, 0, 0, 0), batch(1, seen(0, top, 1, -1)), api.ErrOver},
		"the last line over":                  {0, 1, list(0, 2, top, 0), batch(1, good), api.ErrOver},
		"the last line over, with its base":   {0, 1, list(0, 1, 1, top), batch(1, good), api.ErrOver},
		"what a sample is off over":           {0, 1, list(0, 1, 0, 0), batch(1, seen(low, 3)), api.ErrOver},
		"so of the last sample":               {0, 1, list(0, 1, 0, 0), append(batch(63, good), seen(low, 3)), api.ErrOver},
	} {
		if got, e := mlp.Grad(x.hid, x.w, x.frac, x.l...); len(got) != 0 || e != x.want {
			t.Errorf("%s: got %v, %d, not %d", name, got, e, x.want)
		}
	}
}

// P16.3: how layers are to be bent goes over, though of each sample it can be told how far it is off.
func TestGradAlone(t *testing.T) {
	one, much := list(0, 1, 1, 0), seen(0, top)
	for name, x := range map[string]struct {
		frac, hid int
		w         []int64
		l         []api.Sample
	}{
		"what a line is off":             {0, 1, list(0, 1, 1<<62, 0), batch(1, seen(0, 0))},
		"what the last line is off":      {0, 2, list(0, 0, 0, 1, 0, 1<<62, 0), batch(1, seen(0, 0))},
		"so of the last sample":          {0, 1, list(0, 1, 1<<32, 0), append(batch(63, seen(1<<32, 0)), seen(0, 0))},
		"so with bits behind":            {1, 1, list(0, 2, 1<<62, 0), batch(1, seen(0, 0))},
		"what is seen, by it":            {0, 1, one, batch(1, seen(2, low))},
		"so of the last number":          {0, 1, list(0, 0, 1, 1, 0), batch(1, seen(-1, 5, top))},
		"so of the last line ahead":      {0, 2, list(0, 0, 0, 1, 0, 1, 0), batch(1, seen(-1, top))},
		"so of the last of all samples":  {0, 1, one, append(batch(63, seen(0, 1)), seen(-1, top))},
		"what is hidden, by it":          {0, 1, list(0, 1<<62, 0, 2), batch(1, seen(0, 5))},
		"so of the last that is hidden":  {0, 2, list(0, 1, 0, top, 0, 0, 2), batch(1, seen(0, 5))},
		"so of the second sample":        {0, 1, list(0, 1<<62, 0, 2), []api.Sample{seen(2, 5), seen(0, 5)}},
		"the sum":                        {0, 1, one, []api.Sample{much, seen(0, 1)}},
		"the sum below":                  {0, 1, one, []api.Sample{seen(0, low), seen(0, -1)}},
		"the sum of bases":               {0, 1, list(0, 1, 1<<31, 0), batch(2, seen(0, 0))},
		"the sum of what is hidden":      {0, 1, list(0, top, 0, 1), batch(2, seen(0, 0))},
		"the sum of what is off":         {0, 1, list(1, 0, 0, top), []api.Sample{seen(0, 0), seen(top-1, 0)}},
		"the sum of what is off, below":  {0, 1, list(1, 0, 0, low), []api.Sample{seen(0, 0), seen(low+1, 0)}},
		"the sum on the way":             {0, 1, one, []api.Sample{much, seen(0, 1), seen(0, -1)}},
		"the sum on the way to the last": {0, 1, one, append(append([]api.Sample{much}, batch(62, seen(1, 5))...), seen(0, 1))},
	} {
		for i, s := range x.l {
			if _, e := mlp.Off(x.hid, x.w, s, x.frac); e != api.OK {
				t.Errorf("Off, %s, sample %d: got %d", name, i, e)
			}
		}
		if got, e := mlp.Grad(x.hid, x.w, x.frac, x.l...); len(got) != 0 || e != api.ErrOver {
			t.Errorf("Grad, %s: got %v, %d", name, got, e)
		}
	}
}

// P16.3: what bends layers is summed up from the first sample on.
func TestGradSumsFromTheFirstOn(t *testing.T) {
	w := list(0, 1, 1, 0)
	much, one, less := seen(0, top), seen(0, 1), seen(0, -1)
	if got, e := mlp.Grad(1, w, 0, much, one, less); len(got) != 0 || e != api.ErrOver {
		t.Errorf("got %v, %d", got, e)
	}
	if got, e := mlp.Grad(1, w, 0, much, less, one); !slices.Equal(got, list(top/3, 1, 1, 1)) || e != api.OK {
		t.Errorf("got %v, %d", got, e)
	}
}
