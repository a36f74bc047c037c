package model_test

import (
	"slices"
	"testing"

	"thrum/api"
	"thrum/linear"
	"thrum/mlp"
	"thrum/model"
	"thrum/soft"
	"thrum/vec"
)

// chance are numbers that look like it; others for another seed.
type chance uint64

func (c *chance) next() uint64 {
	*c = *c*6364136223846793005 + 1442695040888963407
	return uint64(*c >> 11)
}

// below is one of 0 to n less 1.
func (c *chance) below(n int) int { return int(c.next() % uint64(n)) }

// number is one of at most so many bits, or fewer, of either sign.
func (c *chance) number(bits uint64) int64 {
	return int64(c.next()<<11|c.next()%2048) >> (64 - bits + c.next()%bits)
}

func (c *chance) numbers(n int, bits uint64) []int64 {
	v := make([]int64, n)
	for i := range v {
		v[i] = c.number(bits)
	}
	return v
}

// model is one that may be.
func (c *chance) model() api.Model {
	in, frac := 1+c.below(api.MaxIn), c.below(api.MaxFrac+1)
	if c.below(2) == 0 {
		in = 1 + c.below(3)
	}
	switch c.below(3) {
	case 0:
		return line(in, frac)
	case 1:
		return classes(in, 2+c.below(7), frac)
	}
	return layers(in, 1+c.below(8), frac)
}

// trial is a model, its numbers, and samples.
type trial struct {
	m api.Model
	w []int64
	l []api.Sample
}

// sample is one that goes with a model.
func (c *chance) sample(m api.Model, bits uint64) api.Sample {
	s := api.Sample{X: c.numbers(m.In, bits), Y: c.number(bits)}
	if m.Kind == api.SoftM {
		s.Y = int64(c.below(m.Out))
	}
	return s
}

// trial is one that goes together; its numbers have at most so many bits.
func (c *chance) trial(bits uint64) trial {
	m := c.model()
	x := trial{m: m, w: c.numbers(numbers(m), bits)}
	for range 1 + c.below(4) {
		x.l = append(x.l, c.sample(m, bits))
	}
	return x
}

// spoil makes something of it wrong, or several things.
func (c *chance) spoil(x trial) trial {
	for range 1 + c.below(3) {
		wrong := []int{-1, 0, 1, 2, 3, 9, 17, 31, top, low}[c.below(10)]
		switch c.below(9) {
		case 0:
			x.m.Kind = wrong
		case 1:
			x.m.In = wrong
		case 2:
			x.m.Out = wrong
		case 3:
			x.m.Hid = wrong
		case 4:
			x.m.Frac = wrong
		case 5:
			x.w = c.numbers(c.below(19)*(1+c.below(8))+c.below(3), 4)
		case 6:
			x.l = slices.Repeat(x.l[:1], []int{63, 64, 65, 66}[c.below(4)])
		case 7:
			x.l[c.below(len(x.l))].X = c.numbers(c.below(19), 4)
		case 8:
			x.l[c.below(len(x.l))].Y = []int64{-1, 8, top, low}[c.below(4)]
		}
	}
	return x
}

// trials are many, of numbers that are small, of ones that go over, and of what does not go together.
func trials() []trial {
	c := chance(17)
	var l []trial
	for _, bits := range []uint64{2, 4, 7, 10, 16, 24, 30, 33, 40, 46, 62, 63, 64} {
		for range 400 {
			l = append(l, c.trial(bits))
		}
		for range 300 {
			l = append(l, c.spoil(c.trial(bits)))
		}
	}
	return l
}

// match is what Fits tells of these, as the words have it: what the layer of its kind tells.
func (x trial) match() api.Errno {
	switch {
	case !may(x.m):
		return api.ErrArg
	case x.m.Kind == 0:
		return linear.Check(x.m.In, x.w, x.l...)
	case x.m.Kind == 1:
		return soft.Check(x.m.In, x.m.Out, x.w, x.l...)
	}
	return mlp.Check(x.m.In, x.m.Hid, x.w, x.l...)
}

// tells is what is told of what is seen, as the words have it.
func (x trial) tells(seen []int64) ([]int64, api.Errno) {
	if !may(x.m) {
		return nil, api.ErrArg
	}
	if len(x.w) != numbers(x.m) {
		return nil, api.ErrShape
	}
	switch x.m.Kind {
	case 0:
		return alone(linear.Tell(x.w, seen, x.m.Frac))
	case 1:
		return soft.Tell(x.m.Out, x.w, seen, x.m.Frac)
	}
	return alone(mlp.Tell(x.m.Hid, x.w, seen, x.m.Frac))
}

// alone is a number as a list, of an error none.
func alone(number int64, e api.Errno) ([]int64, api.Errno) {
	if e != api.OK {
		return nil, e
	}
	return list(number), api.OK
}

// grad is how a model is to be bent, as the words have it.
func (x trial) grad() ([]int64, api.Errno) {
	if e := x.match(); e != api.OK {
		return nil, e
	}
	switch x.m.Kind {
	case 0:
		return linear.Grad(x.w, x.m.Frac, x.l...)
	case 1:
		return soft.Grad(x.m.Out, x.w, x.m.Frac, x.l...)
	}
	return mlp.Grad(x.m.Hid, x.w, x.m.Frac, x.l...)
}

// counts are how many times each error was told of each kind, so that none is left out.
type counts map[[2]int]int

func (c counts) add(m api.Model, e api.Errno) { c[[2]int{m.Kind, int(e)}]++ }

func (c counts) check(t *testing.T, e ...api.Errno) {
	t.Helper()
	for _, one := range e {
		for kind := range 3 {
			if n := c[[2]int{kind, int(one)}]; n < 100 {
				t.Errorf("%d is told %d times of kind %d", one, n, kind)
			}
		}
	}
}

// P17.1, P17.4: Fits is what the kind's layer tells.
func TestFitsIsAsTheWordsTell(t *testing.T) {
	all := counts{}
	for _, x := range trials() {
		want := x.match()
		if got := model.Fits(x.m, x.w, x.l...); got != want {
			t.Fatalf("Fits of %v: got %d, not %d", x, got, want)
		}
		all.add(x.m, want)
	}
	all.check(t, api.OK, api.ErrArg, api.ErrShape)
}

// P17.2, P17.4: what is told is what the kind's layer tells, of one number one.
func TestToldIsAsTheWordsTell(t *testing.T) {
	all := counts{}
	for _, x := range trials() {
		for _, s := range x.l[:min(3, len(x.l))] {
			want, e := x.tells(s.X)
			if got, f := model.Tell(x.m, x.w, s.X); !slices.Equal(got, want) || f != e {
				t.Fatalf("Tell(%v) of %v: got %v, %d, not %v, %d", s.X, x, got, f, want, e)
			}
			all.add(x.m, e)
		}
	}
	all.check(t, api.OK, api.ErrArg, api.ErrShape, api.ErrOver)
}

// P17.2, P17.4: how a model is to be bent is what the kind's layer tells, as many numbers as it has.
func TestGradIsAsTheWordsTell(t *testing.T) {
	all := counts{}
	for _, x := range trials() {
		want, e := x.grad()
		got, f := model.Grad(x.m, x.w, x.l...)
		if !slices.Equal(got, want) || f != e {
			t.Fatalf("Grad of %v: got %v, %d, not %v, %d", x, got, f, want, e)
		}
		if dim, _ := model.Dim(x.m); e == api.OK && (len(got) != dim || dim != len(x.w)) {
			t.Fatalf("Grad of %v: got %d numbers, not %d", x, len(got), dim)
		}
		all.add(x.m, e)
	}
	all.check(t, api.OK, api.ErrArg, api.ErrShape, api.ErrOver)
}

// clipped is each number, or the one of -most to most nearest to it.
func clipped(v []int64, most int64) []int64 {
	l := slices.Clone(v)
	for i, n := range l {
		l[i] = min(max(n, -most), most)
	}
	return l
}

// P17.2, P17.4: clipped, no number is too great, and the others are as they were.
func TestClipIsAsTheWordsTell(t *testing.T) {
	all, c := counts{}, chance(18)
	cut, whole := 0, 0
	for _, x := range trials() {
		grad, e := x.grad()
		for _, most := range []int64{c.number(64) & top, c.number(20) & top, 0, top, c.number(64) | low} {
			want, f := clipped(grad, most), e
			if e == api.OK && most < 0 {
				want, f = nil, api.ErrArg
			}
			got, g := model.Clip(x.m, x.w, most, x.l...)
			if !slices.Equal(got, want) || g != f {
				t.Fatalf("Clip of %v by %d: got %v, %d, not %v, %d", x, most, got, g, want, f)
			}
			all.add(x.m, g)
			if g != api.OK {
				continue
			}
			if n, e := vec.Most(got...); n > most || e != api.OK {
				t.Fatalf("Clip of %v by %d: got %v", x, most, got)
			}
			if slices.Equal(got, grad) {
				whole++
			} else {
				cut++
			}
		}
	}
	all.check(t, api.OK, api.ErrArg, api.ErrShape, api.ErrOver)
	if cut < 2000 || whole < 2000 {
		t.Errorf("%d are cut, %d are as they were", cut, whole)
	}
}

// P17.1, P17.2: what fits has the model's dimension, and of what may not be none of it is told.
func TestWhatFitsHasTheDimension(t *testing.T) {
	fine := 0
	for _, x := range trials() {
		dim, e := model.Dim(x.m)
		if e != model.Check(x.m) || (dim == 0) != (e != api.OK) {
			t.Fatalf("Dim(%v): got %d, %d", x.m, dim, e)
		}
		if model.Fits(x.m, x.w, x.l...) != api.OK {
			continue
		}
		fine++
		if dim != len(x.w) || e != api.OK {
			t.Fatalf("Dim(%v): got %d, %d, not %d", x.m, dim, e, len(x.w))
		}
	}
	if fine < 2000 {
		t.Errorf("%d fit", fine)
	}
}

// P17.3: a model goes with samples as it begins, and tells and is bent then.
func TestABeginningGoesWithSamples(t *testing.T) {
	c := chance(19)
	for i := range 1000 {
		m := c.model()
		w, e := model.Start(m, c.next())
		var l []api.Sample
		for range 1 + c.below(5) {
			l = append(l, c.sample(m, uint64(m.Frac+2)))
		}
		if f := model.Fits(m, w, l...); e != api.OK || f != api.OK {
			t.Fatalf("%d: %v: got %v, %d, %d", i, m, w, e, f)
		}
		if bent, e := model.Grad(m, w, l...); len(bent) != len(w) || e != api.OK {
			t.Fatalf("%d: %v: got %v, %d", i, m, bent, e)
		}
		told, e := model.Tell(m, w, l[0].X)
		if n := max(1, m.Out); len(told) != n || e != api.OK {
			t.Fatalf("%d: %v: got %v, %d", i, m, told, e)
		}
	}
}
