package soft_test

import (
	"math"
	"slices"
	"testing"

	"thrum/api"
	"thrum/soft"
)

// told are lines, what they see, and what they tell, as another program works it out.
type told struct {
	frac, out int
	w, x      []int64
	shares    []int64
	class     int
}

func tolds() []told {
	three, rest := list(16, 0, -16, 0, 0, 8), list(-65536, 32768, 0)
	two, four := append(list(65536, -32768, 1000), rest...), list(256, 0, 0, 0, 256, 0, -256, 0, 0, 0, -256, 64)
	return []told{
		{4, 2, many(4, 0), list(1), list(8, 8), 0},
		{4, 2, many(4, 0), list(-99), list(8, 8), 0},
		{4, 3, three, list(0), list(4, 4, 6), 2},
		{4, 3, three, list(16), list(8, 2, 5), 0},
		{4, 3, three, list(-160), list(0, 16, 0), 1},
		// What is left of the whole is nobody's.
		{0, 2, many(4, 0), list(7), list(0, 0), 0},
		{4, 3, many(6, 0), list(5), list(5, 5, 5), 0},
		{10, 7, many(14, 0), list(5), many(7, 146), 0},
		{2, 8, many(16, 0), list(5), many(8, 0), 0},
		{3, 8, many(16, 0), list(5), many(8, 1), 0},
		{30, 8, many(16, 0), list(5), many(8, 1<<27), 0},
		{0, 2, list(1, 0, 0, 0), list(1), list(1, 0), 0},
		{0, 2, list(1, 0, 0, 0), list(-1), list(0, 1), 1},
		{1, 2, list(1, 0, 0, 0), list(4), list(1, 0), 0},
		{1, 2, list(1, 0, 0, 0), list(8), list(2, 0), 0},
		{16, 2, two, list(65536, 65536), list(43690, 21845), 0},
		{16, 2, two, list(-70000, 12345), list(11383, 54152), 1},
		// The shares are the same, but one line tells more.
		{16, 2, two, list(3, 3), list(32768, 32768), 0},
		{30, 2, list(1<<30, 0, 0, 1), list(0), list(1<<29, 1<<29), 1},
		{16, 2, two, list(2000000, -2000000), list(65536, 0), 0},
		{8, 4, four, list(256, 128), list(107, 76, 26, 45), 0},
		{8, 4, four, list(-300, 10), list(23, 53, 117, 61), 2},
		{8, 4, four, list(0, 0), list(61, 61, 61, 72), 3},
		{8, 4, four, list(10, -300), list(51, 22, 49, 133), 3},
		{8, 4, four, list(0, 2000), list(0, 254, 0, 0), 1},
		{30, 2, list(1<<30, 0, 0, 0), list(1 << 29), list(628983398, 444758425), 0},
		{30, 2, list(1<<30, 0, 0, 0), list(-1 << 28), list(490470643, 583271180), 1},
		{30, 2, list(1<<30, 0, 0, 0), list(1 << 35), list(1<<30, 0), 0},
		// At the edges: what counts is how far a line is behind the one that tells most.
		{0, 3, list(1, 0, 1, 1, 1, 2), list(top - 2), list(0, 0, 1), 2},
		{0, 3, list(1, 0, 1, 1, 1, 2), list(low), list(0, 0, 1), 2},
		{0, 2, list(1, 0, 0, 0), list(top), list(1, 0), 0},
		{0, 2, list(1, 0, 0, 0), list(-top), list(0, 1), 1},
		{0, 2, list(1, 0, 1, -3), list(low + 3), list(1, 0), 0},
		{7, 2, list(0, low, 0, low), list(top), list(64, 64), 0},
	}
}

// P15.2: Tell.
func TestTell(t *testing.T) {
	for _, x := range tolds() {
		if got, e := soft.Tell(x.out, x.w, x.x, x.frac); !slices.Equal(got, x.shares) || e != api.OK {
			t.Errorf("Tell(%d, %v, %v, %d): got %v, %d, not %v", x.out, x.w, x.x, x.frac, got, e, x.shares)
		}
	}
}

// P15.2: Class; of those that tell as much the first.
func TestClass(t *testing.T) {
	for _, x := range tolds() {
		if got, e := soft.Class(x.out, x.w, x.x, x.frac); got != x.class || e != api.OK {
			t.Errorf("Class(%d, %v, %v, %d): got %d, %d, not %d", x.out, x.w, x.x, x.frac, got, e, x.class)
		}
	}
}

// P15.2: Off is what is told, with the whole less at the class.
func TestOff(t *testing.T) {
	for _, x := range tolds() {
		for y := range x.out {
			want := slices.Clone(x.shares)
			want[y] -= 1 << x.frac
			if got, e := soft.Off(x.out, x.w, seen(int64(y), x.x...), x.frac); !slices.Equal(got, want) || e != api.OK {
				t.Errorf("Off(%d, %v, %v of %d, %d): got %v, %d, not %v", x.out, x.w, x.x, y, x.frac, got, e, want)
			}
		}
	}
}

// wrong are lines and what they see, of which nothing can be told.
type wrong struct {
	name      string
	frac, out int
	w, x      []int64
	want      api.Errno
}

func wrongs() []wrong {
	sees := list(1, 2, 0, 3, 4, 0)
	return []wrong{
		{"one class", 0, 1, list(1, 2), list(1), api.ErrArg},
		{"no class", 0, 0, nil, list(1), api.ErrArg},
		{"no class, no numbers", 0, 0, nil, nil, api.ErrArg},
		{"fewer classes than none", 0, -1, list(1, 2), list(1), api.ErrArg},
		{"nine classes", 0, 9, many(18, 0), list(1), api.ErrArg},
		{"far too many classes", 0, math.MaxInt, sees, list(1, 2), api.ErrArg},
		{"far fewer classes than none", 0, math.MinInt, sees, list(1, 2), api.ErrArg},
		{"nine classes, another shape", 0, 9, sees, list(1), api.ErrArg},
		{"one class, and over", 0, 1, list(top, 2), list(top), api.ErrArg},
		{"no lines", 0, 2, nil, list(1), api.ErrShape},
		{"no lines, no numbers", 0, 2, nil, nil, api.ErrShape},
		{"fewer numbers than lines", 0, 3, list(1, 2), list(1), api.ErrShape},
		{"bases alone", 0, 3, list(1, 2, 3), nil, api.ErrShape},
		{"bases alone, of one", 0, 3, list(1, 2, 3), list(1), api.ErrShape},
		{"a number too few", 0, 2, sees[:5], list(1, 2), api.ErrShape},
		{"a number too many", 0, 2, many(7, 1), list(1, 2), api.ErrShape},
		{"lines that see too many", 0, 2, many(36, 1), many(17, 1), api.ErrShape},
		{"lines longer than a vector", 0, 2, many(2*api.MaxDim+2, 1), many(api.MaxDim, 1), api.ErrShape},
		{"none to be seen", 0, 2, sees, nil, api.ErrShape},
		{"fewer to be seen", 0, 2, sees, list(1), api.ErrShape},
		{"more to be seen", 0, 2, sees, list(1, 2, 3), api.ErrShape},
		{"as many as all lines see", 0, 2, sees, many(4, 1), api.ErrShape},
		{"as many as all lines have", 0, 2, sees, many(6, 1), api.ErrShape},
		{"far more to be seen", 0, 2, sees, many(api.MaxDim+1, 1), api.ErrShape},
		{"a bit too many", 31, 2, sees, list(1, 2), api.ErrArg},
		{"a bit below none", -1, 2, sees, list(1, 2), api.ErrArg},
		{"far too many bits", math.MaxInt, 2, sees, list(1, 2), api.ErrArg},
		{"bits far below none", math.MinInt, 2, sees, list(1, 2), api.ErrArg},
		{"a bit too many of zeros", 31, 2, many(4, 0), list(0), api.ErrArg},
		{"a bit too many, a number too few", 31, 2, sees[:5], list(1, 2), api.ErrShape},
		{"a bit too many, fewer to be seen", 31, 2, sees, list(1), api.ErrShape},
		{"a bit below none, more to be seen", -1, 2, sees, list(1, 2, 3), api.ErrShape},
		{"a bit too many, and over", 31, 2, list(top, 0, 0, 0), list(top), api.ErrArg},
		{"over, more to be seen", 0, 2, list(top, 0, 0, 0), list(top, 1), api.ErrShape},
		{"the first line over", 0, 2, list(top, 0, 0, 0), list(2), api.ErrOver},
		{"the last line over", 0, 3, list(0, 0, 0, 0, low, 0), list(-1), api.ErrOver},
		{"the second line over, with its base", 0, 3, list(0, 0, 1, 1, 0, 0), list(top), api.ErrOver},
		{"a line over on the way", 0, 2, list(1, 1, 1, 0, 0, 0, 0, 0), list(top, 1, -1), api.ErrOver},
		{"all lines over", 0, 4, many(8, top), list(top), api.ErrOver},
		{"a line over, thirty bits", 30, 2, list(1<<30, top, 0, 0), list(1), api.ErrOver},
	}
}

// P15.2: errors that Tell, Class and Off all tell, beside which there is nothing, and which of them comes first.
func TestTellErrors(t *testing.T) {
	for _, x := range wrongs() {
		if got, e := soft.Tell(x.out, x.w, x.x, x.frac); len(got) != 0 || e != x.want {
			t.Errorf("Tell, %s: got %v, %d, not %d", x.name, got, e, x.want)
		}
		if got, e := soft.Class(x.out, x.w, x.x, x.frac); got != 0 || e != x.want {
			t.Errorf("Class, %s: got %d, %d, not %d", x.name, got, e, x.want)
		}
		// They come ahead of a class that is none.
		for _, y := range list(0, 1, -1, 9, top, low) {
			if got, e := soft.Off(x.out, x.w, seen(y, x.x...), x.frac); len(got) != 0 || e != x.want {
				t.Errorf("Off, %s, of %d: got %v, %d, not %d", x.name, y, got, e, x.want)
			}
		}
	}
}

// P15.2: where lines tell numbers too far apart for shares, the greatest one's class is told all the same.
func TestFarApart(t *testing.T) {
	for name, x := range map[string]struct {
		frac, out int
		w, x      []int64
		class     int
	}{
		"the least and 0":                {0, 2, list(1, 0, 0, 0), list(low), 1},
		"0 and the least":                {9, 2, list(0, 0, 0, low), list(5), 0},
		"the greatest and the least":     {0, 2, list(0, low, 0, top), list(5), 1},
		"the greatest and its opposite":  {30, 2, list(0, top, 0, -top), list(0), 0},
		"the greatest and -1":            {0, 3, list(0, 1, 0, -1, 0, top), list(0), 2},
		"the greatest, -2 and the least": {0, 3, list(0, -2, 0, top, 0, low), list(0), 1},
	} {
		if got, e := soft.Tell(x.out, x.w, x.x, x.frac); len(got) != 0 || e != api.ErrOver {
			t.Errorf("Tell, %s: got %v, %d", name, got, e)
		}
		for _, y := range list(0, 1, -1, 9) {
			if got, e := soft.Off(x.out, x.w, seen(y, x.x...), x.frac); len(got) != 0 || e != api.ErrOver {
				t.Errorf("Off, %s, of %d: got %v, %d", name, y, got, e)
			}
		}
		if got, e := soft.Class(x.out, x.w, x.x, x.frac); got != x.class || e != api.OK {
			t.Errorf("Class, %s: got %d, %d, not %d", name, got, e, x.class)
		}
	}
}

// P15.2: a sample of no class is off nothing that could be told.
func TestOffOfNoClass(t *testing.T) {
	for _, x := range tolds() {
		out := int64(x.out)
		for _, y := range list(-1, -2, out, out+1, 8, 9, 1<<32, 1<<32+1, -1<<32, top, low) {
			if got, e := soft.Off(x.out, x.w, seen(y, x.x...), x.frac); len(got) != 0 || e != api.ErrArg {
				t.Errorf("Off(%d, %v, %v of %d, %d): got %v, %d", x.out, x.w, x.x, y, x.frac, got, e)
			}
		}
	}
}
