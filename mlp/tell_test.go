package mlp_test

import (
	"math"
	"slices"
	"testing"

	"thrum/api"
	"thrum/mlp"
)

// told are two layers, what they see, what they hide of it, and what they tell, as another program works it out.
type told struct {
	frac, hid int
	w, x      []int64
	hidden    []int64
	tell      int64
}

func tolds() []told {
	one, two := list(2, -5, 10, 1), list(2, -5, -1, 1, 10, 100, 1)
	three := list(1, 2, 3, -1, -2, 4, 5, 0, -7, 2, -3, 4, 11)
	four, eight := list(16, -8, 4, -24, 8, 40, 20, -10, 3), list(256, 0, 0, 0, 256, 0, -256, 0, 0, 0, -256, 64, 128, -64, 300, -500, 77)
	wide := list(65536, -32768, 1000, -65536, 32768, 0, 70000, 80000, -90000, 30000, -45000, 12345, -777)
	fine := list(1<<30, 0, -1<<29, 1<<28, 1<<29, -1<<31, 12345)
	return []told{
		{0, 1, one, list(3), list(1), 11},
		{0, 1, one, list(2), list(0), 1},
		{0, 1, one, list(-4), list(0), 1},
		{0, 1, one, list(9), list(13), 131},
		{0, 2, two, list(3), list(1, 0), 11},
		{0, 2, two, list(-1), list(0, 2), 201},
		{0, 2, two, list(2), list(0, 0), 1},
		{0, 2, two, list(0), list(0, 1), 101},
		{0, 3, three, list(1, 1), list(6, 1, 0), 20},
		{0, 3, three, list(-3, 2), list(4, 3, 0), 10},
		{0, 3, three, list(4, -4), list(0, 8, 13), 39},
		{0, 3, three, list(0, 0), list(3, 4, 0), 5},
		{0, 3, three, list(-2, -2), list(0, 10, 0), -19},
		{4, 2, four, list(16, 0), list(20, 16), 18},
		{4, 2, four, list(32, -16), list(44, 0), 58},
		{4, 2, four, list(0, 80), list(0, 80), -47},
		{4, 2, four, list(7, 9), list(6, 33), -11},
		{8, 4, eight, list(256, 128), list(256, 128, 0, 0), 173},
		{8, 4, eight, list(-300, 10), list(0, 10, 300, 54), 319},
		{8, 4, eight, list(0, 0), list(0, 0, 0, 64), -48},
		{8, 4, eight, list(10, -300), list(10, 0, 0, 364), -629},
		{8, 4, eight, list(1, 2000), list(1, 2000, 0, 0), -423},
		{16, 3, wide, list(65536, 65536), list(33768, 0, 60000), 25982},
		{16, 3, wide, list(-70000, 12345), list(0, 76172, 0), -53081},
		{16, 3, wide, list(3, 3), list(1001, 0, 0), -319},
		{30, 2, fine, list(1 << 29), list(1<<29, 0), 268447801},
		{30, 2, fine, list(-1 << 28), list(0, 3<<27), -805294023},
		{30, 2, fine, list(1 << 35), list(1<<35, 0), 17179881529},
		{30, 1, list(1, -1, 1<<30, 0), list(5 << 30), list(4), 4},
		{1, 2, list(3, 1, -3, 1, 1, 1, 0), list(1), list(2, 0), 1},
		{1, 2, list(3, 1, -3, 1, 1, 1, 0), list(-2), list(0, 4), 2},
		// At the edges: what is below 0 is none, however far.
		{0, 1, list(1, 0, 1, 0), list(top), list(top), top},
		{0, 1, list(1, 0, -1, 0), list(top), list(top), -top},
		{0, 1, list(1, 0, -1, -1), list(top), list(top), low},
		{0, 1, list(1, 0, top, low), list(low), list(0), low},
		{0, 2, list(1, 0, 0, low, top, top, top), list(low), list(0, 0), top},
		{7, 1, list(0, -1, 1<<50, top), list(low), list(0), top},
	}
}

// P16.2: Hidden.
func TestHidden(t *testing.T) {
	for _, x := range tolds() {
		if got, e := mlp.Hidden(x.hid, x.w, x.x, x.frac); !slices.Equal(got, x.hidden) || e != api.OK {
			t.Errorf("Hidden(%d, %v, %v, %d): got %v, %d, not %v", x.hid, x.w, x.x, x.frac, got, e, x.hidden)
		}
	}
}

// P16.2: Tell.
func TestTell(t *testing.T) {
	for _, x := range tolds() {
		if got, e := mlp.Tell(x.hid, x.w, x.x, x.frac); got != x.tell || e != api.OK {
			t.Errorf("Tell(%d, %v, %v, %d): got %d, %d, not %d", x.hid, x.w, x.x, x.frac, got, e, x.tell)
		}
	}
}

// P16.2: Off is what is told, less what is to be.
func TestOff(t *testing.T) {
	for _, x := range tolds() {
		for _, off := range list(0, 1, -1, 5, -37, 1<<40, -1<<62) {
			y := x.tell - off
			if (y > x.tell) != (off < 0) {
				continue
			}
			if got, e := mlp.Off(x.hid, x.w, seen(y, x.x...), x.frac); got != off || e != api.OK {
				t.Errorf("Off(%d, %v, %v of %d, %d): got %d, %d, not %d", x.hid, x.w, x.x, y, x.frac, got, e, off)
			}
		}
	}
}

// P16.2: Off next to the edges, and over them.
func TestOffAtTheEdges(t *testing.T) {
	for _, x := range []struct {
		told, y, want int64
		e             api.Errno
	}{
		{0, 0, 0, api.OK},
		{0, top, -top, api.OK},
		{0, low + 1, top, api.OK},
		{0, low, 0, api.ErrOver},
		{-1, low, top, api.OK},
		{-1, top, low, api.OK},
		{-2, top, 0, api.ErrOver},
		{1, -top, 0, api.ErrOver},
		{top, top, 0, api.OK},
		{top, 0, top, api.OK},
		{top, -1, 0, api.ErrOver},
		{top, low, 0, api.ErrOver},
		{low, low, 0, api.OK},
		{low, 0, low, api.OK},
		{low, 1, 0, api.ErrOver},
		{low, top, 0, api.ErrOver},
	} {
		for _, frac := range []int{0, 7, 30} {
			w := list(0, -9, 0, 0, 5, 6, x.told)
			if got, e := mlp.Off(2, w, seen(x.y, 3), frac); got != x.want || e != x.e {
				t.Errorf("%d less %d: got %d, %d, not %d, %d", x.told, x.y, got, e, x.want, x.e)
			}
		}
	}
}

// wrong are two layers and what they see, of which nothing is hidden.
type wrong struct {
	name      string
	frac, hid int
	w, x      []int64
	want      api.Errno
}

func wrongs() []wrong {
	sees := list(1, 2, 0, 3, 4, 0, 1, 1, 0)
	return []wrong{
		{"no line between", 0, 0, list(7), nil, api.ErrArg},
		{"no line between, no numbers", 0, 0, nil, nil, api.ErrArg},
		{"fewer lines than none", 0, -1, sees, list(1, 2), api.ErrArg},
		{"fewer lines than none, no numbers", 0, -1, nil, list(1), api.ErrArg},
		{"nine lines", 0, 9, many(28, 0), list(1), api.ErrArg},
		{"far too many lines", 0, math.MaxInt, sees, list(1, 2), api.ErrArg},
		{"far fewer lines than none", 0, math.MinInt, sees, list(1, 2), api.ErrArg},
		{"nine lines, another shape", 0, 9, sees, list(1), api.ErrArg},
		{"nine lines, and over", 0, 9, many(28, top), list(top), api.ErrArg},
		{"no layers", 0, 2, nil, list(1), api.ErrShape},
		{"no layers, no numbers", 0, 2, nil, nil, api.ErrShape},
		{"fewer numbers than lines", 0, 3, list(1, 2), list(1), api.ErrShape},
		{"the last line alone", 0, 2, list(1, 2, 3), list(1), api.ErrShape},
		{"the last line alone, none to be seen", 0, 2, list(1, 2, 3), nil, api.ErrShape},
		{"bases and the last line", 0, 2, list(1, 2, 3, 4, 5), nil, api.ErrShape},
		{"bases and the last line, of one", 0, 2, list(1, 2, 3, 4, 5), list(1), api.ErrShape},
		{"without the last line", 0, 2, sees[:6], list(1, 2), api.ErrShape},
		{"a number too few", 0, 2, sees[:8], list(1, 2), api.ErrShape},
		{"a number too many", 0, 2, many(10, 1), list(1, 2), api.ErrShape},
		{"lines that see too many", 0, 2, many(39, 1), many(17, 1), api.ErrShape},
		{"lines longer than a vector", 0, 2, many(2*api.MaxDim+5, 1), many(api.MaxDim, 1), api.ErrShape},
		{"none to be seen", 0, 2, sees, nil, api.ErrShape},
		{"fewer to be seen", 0, 2, sees, list(1), api.ErrShape},
		{"more to be seen", 0, 2, sees, list(1, 2, 3), api.ErrShape},
		{"seventeen to be seen", 0, 2, sees, many(17, 1), api.ErrShape},
		{"as many as all lines see", 0, 2, sees, many(4, 1), api.ErrShape},
		{"as many as there are", 0, 2, sees, many(9, 1), api.ErrShape},
		{"far more to be seen", 0, 2, sees, many(api.MaxDim+1, 1), api.ErrShape},
		{"a bit too many", 31, 2, sees, list(1, 2), api.ErrArg},
		{"a bit below none", -1, 2, sees, list(1, 2), api.ErrArg},
		{"far too many bits", math.MaxInt, 2, sees, list(1, 2), api.ErrArg},
		{"bits far below none", math.MinInt, 2, sees, list(1, 2), api.ErrArg},
		{"a bit too many of zeros", 31, 1, many(4, 0), list(0), api.ErrArg},
		{"a bit too many, a number too few", 31, 2, sees[:8], list(1, 2), api.ErrShape},
		{"a bit too many, fewer to be seen", 31, 2, sees, list(1), api.ErrShape},
		{"a bit below none, more to be seen", -1, 2, sees, list(1, 2, 3), api.ErrShape},
		{"a bit too many, and over", 31, 1, list(top, 0, 0, 0), list(top), api.ErrArg},
		{"over, more to be seen", 0, 1, list(top, 0, 0, 0), list(top, 1), api.ErrShape},
		{"the first line over", 0, 2, list(top, 0, 0, 0, 0, 0, 0), list(2), api.ErrOver},
		{"the last line of three over", 0, 3, list(0, 0, 0, 0, low, 0, 0, 0, 0, 0), list(-1), api.ErrOver},
		{"a line over below", 0, 2, list(0, 0, low, 0, 0, 0, 0), list(2), api.ErrOver},
		{"the second line over, with its base", 0, 3, list(0, 0, 1, 1, 0, 0, 0, 0, 0, 0), list(top), api.ErrOver},
		{"a line over below, with its base", 0, 1, list(1, -1, 1, 1), list(low), api.ErrOver},
		{"a line over on the way", 0, 1, list(1, 1, 1, 0, 0, 0), list(top, 1, -1), api.ErrOver},
		{"all lines over", 0, 4, many(13, top), list(top), api.ErrOver},
		{"a line over, thirty bits", 30, 1, list(1<<30, top, 0, 0), list(1), api.ErrOver},
	}
}

// P16.2: errors that Hidden, Tell and Off all tell, beside which there is nothing, and which of them comes first.
func TestHiddenErrors(t *testing.T) {
	for _, x := range wrongs() {
		if got, e := mlp.Hidden(x.hid, x.w, x.x, x.frac); len(got) != 0 || e != x.want {
			t.Errorf("Hidden, %s: got %v, %d, not %d", x.name, got, e, x.want)
		}
		if got, e := mlp.Tell(x.hid, x.w, x.x, x.frac); got != 0 || e != x.want {
			t.Errorf("Tell, %s: got %d, %d, not %d", x.name, got, e, x.want)
		}
		for _, y := range list(0, 1, -1, top, low) {
			if got, e := mlp.Off(x.hid, x.w, seen(y, x.x...), x.frac); got != 0 || e != x.want {
				t.Errorf("Off, %s, of %d: got %d, %d, not %d", x.name, y, got, e, x.want)
			}
		}
	}
}

// P16.2: the last line goes over, though what is hidden can be told.
func TestTheLastLineOver(t *testing.T) {
	for name, x := range map[string]struct {
		frac, hid int
		w, x      []int64
		hidden    []int64
	}{
		"a product":                 {0, 1, list(1, 0, top, 0), list(2), list(2)},
		"a product below":           {0, 1, list(1, 0, low, 0), list(2), list(2)},
		"the second product":        {0, 2, list(1, 0, 1, 0, 1, top, 0), list(2), list(2, 2)},
		"the sum":                   {0, 2, list(1, 0, 1, 0, 1, 1, 0), list(1 << 62), list(1<<62, 1<<62)},
		"the sum on the way":        {0, 3, list(1, 0, 1, 0, 1, 0, 1, 1, -1, 0), list(1 << 62), many(3, 1<<62)},
		"with the base":             {0, 1, list(1, 0, 1, 1), list(top), list(top)},
		"with the base below":       {0, 1, list(1, 0, -1, low), list(1), list(1)},
		"with the base, one behind": {1, 1, list(2, 0, 2, top), list(1), list(1)},
	} {
		if got, e := mlp.Hidden(x.hid, x.w, x.x, x.frac); !slices.Equal(got, x.hidden) || e != api.OK {
			t.Errorf("Hidden, %s: got %v, %d, not %v", name, got, e, x.hidden)
		}
		if got, e := mlp.Tell(x.hid, x.w, x.x, x.frac); got != 0 || e != api.ErrOver {
			t.Errorf("Tell, %s: got %d, %d", name, got, e)
		}
		for _, y := range list(0, 1, -1, top, low) {
			if got, e := mlp.Off(x.hid, x.w, seen(y, x.x...), x.frac); got != 0 || e != api.ErrOver {
				t.Errorf("Off, %s, of %d: got %d, %d", name, y, got, e)
			}
		}
	}
}
