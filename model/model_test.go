package model_test

import (
	"math"
	"slices"
	"testing"

	"thrum/api"
	"thrum/model"
)

const (
	top = math.MaxInt64
	low = math.MinInt64
)

// list is numbers as they are written.
func list(v ...int64) []int64 { return v }

// many is n times the same number.
func many(n int, x int64) []int64 { return slices.Repeat(list(x), n) }

// seen is a sample that is to tell y, as x is seen.
func seen(y int64, x ...int64) api.Sample { return api.Sample{X: x, Y: y} }

// batch is n times the same sample.
func batch(n int, s api.Sample) []api.Sample { return slices.Repeat([]api.Sample{s}, n) }

// line, classes and layers are models of a kind each.
func line(in, frac int) api.Model { return api.Model{Kind: api.LinearM, In: in, Frac: frac} }

func classes(in, out, frac int) api.Model {
	return api.Model{Kind: api.SoftM, In: in, Out: out, Frac: frac}
}

func layers(in, hid, frac int) api.Model {
	return api.Model{Kind: api.MlpM, In: in, Hid: hid, Frac: frac}
}

// may tells whether a model may be, as the words have it.
func may(m api.Model) bool {
	if m.In < 1 || m.In > 16 || m.Frac < 0 || m.Frac > 30 {
		return false
	}
	switch m.Kind {
	case 0:
		return m.Out == 0 && m.Hid == 0
	case 1:
		return m.Out >= 2 && m.Out <= 8 && m.Hid == 0
	case 2:
		return m.Out == 0 && m.Hid >= 1 && m.Hid <= 8
	}
	return false
}

// numbers is how many numbers a model has that may be.
func numbers(m api.Model) int {
	switch m.Kind {
	case 0:
		return m.In + 1
	case 1:
		return m.Out * (m.In + 1)
	}
	return m.Hid*(m.In+1) + m.Hid + 1
}

// mixed are models of numbers at the edges of what may be, and of ones between, each with each.
func mixed() []api.Model {
	var l []api.Model
	for _, kind := range []int{low, -2, -1, 0, 1, 2, 3, 4, 1 << 32, 1<<32 + 1, top} {
		for _, in := range []int{low, -1, 0, 1, 2, 9, 15, 16, 17, 1<<32 + 1, top} {
			for _, out := range []int{low, -2, -1, 0, 1, 2, 3, 7, 8, 9, 1<<32 + 2, top} {
				for _, hid := range []int{low, -1, 0, 1, 2, 7, 8, 9, 1<<32 + 1, top} {
					for _, frac := range []int{low, -1, 0, 1, 16, 29, 30, 31, 1 << 32, top} {
						l = append(l, api.Model{Kind: kind, In: in, Out: out, Hid: hid, Frac: frac})
					}
				}
			}
		}
	}
	return l
}

// good are all models that may be, but for bits behind the point that lie between.
func good() []api.Model {
	var l []api.Model
	for in := 1; in <= 16; in++ {
		for _, frac := range []int{0, 1, 4, 15, 29, 30} {
			l = append(l, line(in, frac))
			for out := 2; out <= 8; out++ {
				l = append(l, classes(in, out, frac))
			}
			for hid := 1; hid <= 8; hid++ {
				l = append(l, layers(in, hid, frac))
			}
		}
	}
	return l
}

// bad are models that may not be, by one thing each, at least.
func bad() map[string]api.Model {
	return map[string]api.Model{
		"nothing":                         {},
		"a kind too high":                 {Kind: 3, In: 1},
		"a kind too high, with classes":   {Kind: 3, In: 1, Out: 2},
		"a kind too high, with hidden":    {Kind: 3, In: 1, Hid: 1},
		"a kind below all":                {Kind: -1, In: 1},
		"the greatest kind":               {Kind: top, In: 1},
		"the least kind":                  {Kind: low, In: 1},
		"a line that sees none":           line(0, 0),
		"a line that sees fewer":          line(-1, 0),
		"a line that sees seventeen":      line(17, 0),
		"a line that sees far too many":   line(top, 0),
		"a line that sees far fewer":      line(low, 0),
		"a line, a bit too many":          line(1, 31),
		"a line, a bit below none":        line(1, -1),
		"a line, far too many bits":       line(1, top),
		"a line, bits far below none":     line(1, low),
		"a line with classes":             {In: 1, Out: 2},
		"a line with a class":             {In: 1, Out: 1},
		"a line with classes below none":  {In: 1, Out: -1},
		"a line with one hidden":          {In: 1, Hid: 1},
		"a line with hidden below none":   {In: 1, Hid: -1},
		"a line with both":                {In: 1, Out: 2, Hid: 1},
		"classes that see none":           classes(0, 2, 0),
		"classes that see seventeen":      classes(17, 2, 0),
		"no class":                        classes(1, 0, 0),
		"one class":                       classes(1, 1, 0),
		"nine classes":                    classes(1, 9, 0),
		"classes below none":              classes(1, -2, 0),
		"far too many classes":            classes(1, top, 0),
		"classes far below none":          classes(1, low, 0),
		"classes, a bit too many":         classes(1, 2, 31),
		"classes, a bit below none":       classes(1, 2, -1),
		"classes with one hidden":         {Kind: api.SoftM, In: 1, Out: 2, Hid: 1},
		"classes with hidden below none":  {Kind: api.SoftM, In: 1, Out: 2, Hid: -1},
		"no class, but hidden":            {Kind: api.SoftM, In: 1, Hid: 2},
		"layers that see none":            layers(0, 1, 0),
		"layers that see seventeen":       layers(17, 1, 0),
		"none hidden":                     layers(1, 0, 0),
		"nine hidden":                     layers(1, 9, 0),
		"hidden below none":               layers(1, -1, 0),
		"far too many hidden":             layers(1, top, 0),
		"hidden far below none":           layers(1, low, 0),
		"layers, a bit too many":          layers(1, 1, 31),
		"layers, a bit below none":        layers(1, 1, -1),
		"layers with classes":             {Kind: api.MlpM, In: 1, Out: 2, Hid: 2},
		"layers with a class":             {Kind: api.MlpM, In: 1, Out: 1, Hid: 1},
		"layers with classes below none":  {Kind: api.MlpM, In: 1, Out: -1, Hid: 1},
		"none hidden, but classes":        {Kind: api.MlpM, In: 1, Out: 2},
		"all too high":                    {Kind: 3, In: 17, Out: 9, Hid: 9, Frac: 31},
		"all too low":                     {Kind: -1, In: -1, Out: -1, Hid: -1, Frac: -1},
		"a line, all else as of classes":  {Kind: api.LinearM, In: 3, Out: 3, Frac: 4},
		"classes, all else as of layers":  {Kind: api.SoftM, In: 3, Hid: 3, Frac: 4},
		"layers, all else as of a line":   {Kind: api.MlpM, In: 3, Frac: 4},
		"classes, all else as of a line":  {Kind: api.SoftM, In: 3, Frac: 4},
		"a line, all else as of layers":   {Kind: api.LinearM, In: 3, Hid: 3, Frac: 4},
		"layers, all else as of classes":  {Kind: api.MlpM, In: 3, Out: 3, Frac: 4},
		"of a kind that goes around to 0": {Kind: 1 << 32, In: 1},
	}
}

// P17.1: Check, of what may be and what may not.
func TestCheck(t *testing.T) {
	for _, m := range good() {
		if e := model.Check(m); e != api.OK {
			t.Errorf("%v: got %d", m, e)
		}
	}
	for name, m := range bad() {
		if e := model.Check(m); e != api.ErrArg {
			t.Errorf("%s: got %d", name, e)
		}
	}
}

// P17.1: Check is as the words tell it, and Dim tells its error, beside which the number is 0.
func TestCheckIsAsTheWordsTell(t *testing.T) {
	fine := 0
	for _, m := range mixed() {
		want, dim := api.ErrArg, 0
		if may(m) {
			want, dim = api.OK, numbers(m)
			fine++
		}
		if e := model.Check(m); e != want {
			t.Fatalf("Check(%v): got %d, not %d", m, e, want)
		}
		if got, e := model.Dim(m); got != dim || e != want {
			t.Fatalf("Dim(%v): got %d, %d, not %d, %d", m, got, e, dim, want)
		}
	}
	if fine < 200 {
		t.Errorf("%d may be", fine)
	}
}

// P17.1: Dim of what may be.
func TestDim(t *testing.T) {
	for _, x := range []struct {
		m    api.Model
		want int
	}{
		{classes(3, 2, 0), 8},
		{line(1, 0), 2},
		{line(2, 30), 3},
		{line(16, 7), 17},
		{classes(1, 2, 0), 4},
		{classes(1, 8, 4), 16},
		{classes(16, 2, 30), 34},
		{classes(16, 8, 0), 136},
		{layers(1, 1, 0), 4},
		{layers(16, 1, 9), 19},
		{layers(1, 8, 30), 25},
		{layers(16, 8, 0), 145},
		{layers(3, 5, 16), 26},
		{layers(5, 3, 16), 22},
	} {
		if got, e := model.Dim(x.m); got != x.want || e != api.OK {
			t.Errorf("Dim(%v): got %d, %d, not %d", x.m, got, e, x.want)
		}
	}
	for _, m := range good() {
		if got, e := model.Dim(m); got != numbers(m) || e != api.OK {
			t.Errorf("Dim(%v): got %d, %d", m, got, e)
		}
	}
}

// P17.1: Dim's error, beside which the number is 0.
func TestDimErrors(t *testing.T) {
	for name, m := range bad() {
		if got, e := model.Dim(m); got != 0 || e != api.ErrArg {
			t.Errorf("%s: got %d, %d", name, got, e)
		}
	}
}

// P17.1: Fits of what goes together, at the edges.
func TestFits(t *testing.T) {
	for _, m := range good() {
		w := many(numbers(m), top)
		for _, n := range []int{1, 2, 63, 64} {
			if e := model.Fits(m, w, batch(n, seen(1, many(m.In, low)...))...); e != api.OK {
				t.Errorf("%v, %d samples: got %d", m, n, e)
			}
		}
	}
	for name, x := range map[string]struct {
		m api.Model
		l []api.Sample
	}{
		"the line may be to tell all there is":   {line(2, 0), []api.Sample{seen(low, 1, 2), seen(top, 1, 2), seen(-1, 0, 0)}},
		"the layers may be to tell all there is": {layers(2, 3, 0), []api.Sample{seen(low, 1, 2), seen(top, 1, 2), seen(-1, 0, 0)}},
		"each class":                             {classes(2, 4, 0), []api.Sample{seen(0, 1, 2), seen(3, 1, 2), seen(2, 0, 0), seen(1, 0, 0)}},
		"one class of eight":                     {classes(1, 8, 0), batch(64, seen(7, 1))},
	} {
		if e := model.Fits(x.m, many(numbers(x.m), 1), x.l...); e != api.OK {
			t.Errorf("%s: got %d", name, e)
		}
	}
}

// misfit is a model, its numbers, and samples that do not go together.
type misfit struct {
	name string
	m    api.Model
	w    []int64
	l    []api.Sample
	want api.Errno
}

// misfitsOf are what goes wrong with models of all kinds alike: m sees two numbers.
func misfitsOf(m api.Model) []misfit {
	n := numbers(m)
	w, s := many(n, 1), seen(1, 1, 2)
	short, long, none := seen(1, 1), seen(1, 1, 2, 3), seen(1)
	return []misfit{
		{"no numbers", m, nil, batch(1, s), api.ErrShape},
		{"a number too few", m, w[:n-1], batch(1, s), api.ErrShape},
		{"a number too many", m, many(n+1, 1), batch(1, s), api.ErrShape},
		{"twice as many numbers", m, many(2*n, 1), batch(1, s), api.ErrShape},
		{"more numbers than a vector has", m, many(api.MaxDim+1, 1), batch(1, s), api.ErrShape},
		{"a sample too short", m, w, batch(1, short), api.ErrShape},
		{"a sample too long", m, w, batch(1, long), api.ErrShape},
		{"a sample of none", m, w, batch(1, none), api.ErrShape},
		{"the first too short", m, w, []api.Sample{short, s, s}, api.ErrShape},
		{"the second too long", m, w, []api.Sample{s, long, s}, api.ErrShape},
		{"the last of none", m, w, []api.Sample{s, s, none}, api.ErrShape},
		{"no samples", m, w, nil, api.ErrArg},
		{"a sample too many", m, w, batch(65, s), api.ErrArg},
		{"far too many samples", m, w, batch(1000, s), api.ErrArg},
		{"no samples, a number too few", m, w[:n-1], nil, api.ErrShape},
		{"a sample too many, a number too many", m, many(n+1, 1), batch(65, s), api.ErrShape},
		{"a sample too many, the last too short", m, w, append(batch(64, s), short), api.ErrShape},
		{"far too many, the first too long", m, w, append(batch(1, long), batch(500, s)...), api.ErrShape},
		{"the first over, the second too short", m, many(n, top), []api.Sample{seen(1, top, top), short}, api.ErrShape},
		{"over, a sample too many", m, many(n, top), batch(65, seen(1, top, top)), api.ErrArg},
		{"over, no samples", m, many(n, top), nil, api.ErrArg},
	}
}

// misfits are these of models of each kind, and what goes wrong with one kind alone.
func misfits() []misfit {
	three, w := classes(2, 3, 4), many(9, 1)
	l := slices.Concat(misfitsOf(line(2, 4)), misfitsOf(three), misfitsOf(layers(2, 3, 4)))
	above, below, good := seen(3, 1, 2), seen(-1, 1, 2), seen(0, 1, 2)
	l = append(l,
		misfit{"a class too high", three, w, batch(1, above), api.ErrArg},
		misfit{"a class below none", three, w, batch(1, below), api.ErrArg},
		misfit{"a class far too high", three, w, batch(1, seen(top, 1, 2)), api.ErrArg},
		misfit{"a class far below none", three, w, batch(1, seen(low, 1, 2)), api.ErrArg},
		misfit{"the last class too high", three, w, append(batch(63, good), above), api.ErrArg},
		misfit{"the first class below none", three, w, append(batch(1, below), good), api.ErrArg},
		misfit{"a class too high, a sample too short", three, w, []api.Sample{above, seen(0, 1)}, api.ErrShape},
		misfit{"a class too high, a number too few", three, w[:8], batch(1, above), api.ErrShape},
		misfit{"the first over, the second class too high", three, many(9, top), []api.Sample{seen(0, top, top), above}, api.ErrArg},
		// What would go together as a model of another one's numbers.
		misfit{"lines that see fewer", line(2, 0), list(1, 2), batch(1, seen(1, 1)), api.ErrShape},
		misfit{"lines that see more", line(2, 0), list(1, 2, 3, 4), batch(1, seen(1, 1, 1, 1)), api.ErrShape},
		misfit{"classes that see fewer", classes(2, 2, 0), many(4, 1), batch(1, seen(1, 1)), api.ErrShape},
		misfit{"classes that see more", classes(2, 2, 0), many(8, 1), batch(1, seen(1, 1, 2, 3)), api.ErrShape},
		misfit{"layers that see fewer", layers(2, 2, 0), many(7, 1), batch(1, seen(1, 1)), api.ErrShape},
		misfit{"layers that see more", layers(2, 2, 0), many(11, 1), batch(1, seen(1, 1, 2, 3)), api.ErrShape},
		misfit{"more classes as long", classes(2, 2, 0), many(6, 1), batch(1, seen(0, 1)), api.ErrShape},
		misfit{"fewer layers as long", layers(1, 4, 0), many(13, 1), batch(1, seen(1, 1, 2)), api.ErrShape},
		misfit{"a line's numbers for layers", layers(3, 1, 0), many(4, 1), batch(1, seen(1, 1, 2, 3)), api.ErrShape},
		misfit{"a line's numbers for classes", classes(3, 2, 0), many(4, 1), batch(1, seen(1, 1, 2, 3)), api.ErrShape},
	)
	return append(l, ahead()...)
}

// ahead are models that may not be, with numbers and samples that would go together, or would not.
func ahead() []misfit {
	var l []misfit
	for name, m := range bad() {
		for _, w := range [][]int64{nil, many(2, 1), many(3, 1), many(4, 1), many(6, 1), many(16, 1), many(18, top), many(145, 1)} {
			for _, x := range [][]api.Sample{nil, {seen(0)}, {seen(0, 1)}, {seen(1, 1, 2)}, batch(65, seen(9, top))} {
				l = append(l, misfit{name, m, w, x, api.ErrArg})
			}
		}
	}
	return l
}

// P17.1: Fits' errors, and which of them comes first.
func TestFitsErrors(t *testing.T) {
	for _, x := range misfits() {
		if e := model.Fits(x.m, x.w, x.l...); e != x.want {
			t.Errorf("%s, %v, %d numbers, %d samples: got %d, not %d", x.name, x.m, len(x.w), len(x.l), e, x.want)
		}
	}
}
