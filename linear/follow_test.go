package linear_test

import (
	"math/big"
	"slices"
	"testing"

	"thrum/api"
	"thrum/linear"
	"thrum/vec"
)

// chance are numbers that look like it; others for another seed.
type chance uint64

func (c *chance) next() uint64 {
	*c = *c*6364136223846793005 + 1442695040888963407
	return uint64(*c >> 11)
}

// number is one of at most so many bits, or fewer, of either sign.
func (c *chance) number(bits uint64) int64 {
	return int64(c.next()<<11|c.next()%2048) >> (64 - bits + c.next()%bits)
}

func (c *chance) numbers(n int, bits uint64) []int64 {
	v := make([]int64, n)
	for i := range v {
		v[i] = c.number(bits)
	}
	return v
}

// trial is a line and samples.
type trial struct {
	w    []int64
	frac int
	l    []api.Sample
}

// trial is one whose numbers have at most so many bits, most of which goes together.
func (c *chance) trial(bits uint64) trial {
	in := 1 + int(c.next()%api.MaxIn)
	x := trial{w: c.numbers(in+1, bits), frac: int(c.next() % (api.MaxFrac + 1))}
	for range 1 + c.next()%6 {
		x.l = append(x.l, api.Sample{X: c.numbers(in, bits), Y: c.number(bits)})
	}
	return x
}

// spoil makes something of it wrong, or several things.
func (c *chance) spoil(x trial) trial {
	in := len(x.w) - 1
	for range 1 + c.next()%3 {
		switch c.next() % 6 {
		case 0:
			x.w = c.numbers(int(c.next()%20), 4)
		case 1:
			x.frac = []int{-1, 31, low, top}[c.next()%4]
		case 2:
			x.l = slices.Repeat(x.l[:1], []int{63, 64, 65, 66}[c.next()%4])
		case 3:
			x.l[c.next()%uint64(len(x.l))].X = c.numbers(int(c.next()%19), 4)
		case 4:
			x.l = append(x.l, api.Sample{X: make([]int64, in), Y: low})
		case 5:
			x.l = append(x.l, api.Sample{X: c.numbers(in, 64)})
		}
	}
	return x
}

// trials are many, of numbers that are small, of ones that go over, and of what may not be.
func trials() []trial {
	c := chance(14)
	var l []trial
	for _, bits := range []uint64{2, 5, 9, 18, 27, 29, 31, 33, 40, 46, 50, 63, 64} {
		for range 400 {
			l = append(l, c.trial(bits))
		}
		for range 100 {
			l = append(l, c.spoil(c.trial(bits)))
		}
	}
	return l
}

// reckoner reckons in numbers without end, and keeps whether one that has come up has no place in 64 bits.
type reckoner struct{ over bool }

func (r *reckoner) placed(n *big.Int) *big.Int {
	r.over = r.over || !n.IsInt64()
	return n
}

func (r *reckoner) add(a, b *big.Int) *big.Int { return r.placed(new(big.Int).Add(a, b)) }

// mul is a product, of which frac bits are cut off, down.
func (r *reckoner) mul(a, b *big.Int, frac int) *big.Int {
	n := new(big.Int).Mul(a, b)
	return r.placed(n.Rsh(n, uint(frac)))
}

func whole(n int64) *big.Int { return big.NewInt(n) }

// tell is what a line tells, off how far it is off.
func (r *reckoner) tell(w, x []int64, frac int) *big.Int {
	sum := new(big.Int)
	for i, n := range x {
		sum = r.add(sum, r.mul(whole(w[i]), whole(n), frac))
	}
	return r.add(sum, whole(w[len(x)]))
}

func (r *reckoner) off(w []int64, s api.Sample, frac int) *big.Int {
	return r.placed(new(big.Int).Sub(r.tell(w, s.X, frac), whole(s.Y)))
}

// grad is how a line is to be bent.
func (r *reckoner) grad(x trial) []*big.Int {
	sum := make([]*big.Int, len(x.w))
	for i := range sum {
		sum[i] = new(big.Int)
	}
	for _, s := range x.l {
		off := r.off(x.w, s, x.frac)
		for i, n := range s.X {
			sum[i] = r.add(sum[i], r.mul(whole(n), off, x.frac))
		}
		sum[len(s.X)] = r.add(sum[len(s.X)], off)
	}
	for i, n := range sum {
		sum[i] = down(n, len(x.l))
	}
	return sum
}

func (r *reckoner) loss(x trial) *big.Int {
	sum := new(big.Int)
	for _, s := range x.l {
		off := r.off(x.w, s, x.frac)
		sum = r.add(sum, r.mul(off, off, x.frac))
	}
	return sum
}

// down is the n-th part of a number, down.
func down(a *big.Int, n int) *big.Int {
	part, rest := new(big.Int).QuoRem(a, whole(int64(n)), new(big.Int))
	if rest.Sign() < 0 {
		part.Sub(part, whole(1))
	}
	return part
}

// placed are numbers that have their places.
func placed(l []*big.Int) []int64 {
	var v []int64
	for _, n := range l {
		v = append(v, n.Int64())
	}
	return v
}

// shape is what Check tells, as the words have it.
func shape(in int, w []int64, l []api.Sample) api.Errno {
	same := len(w) == in+1
	for _, s := range l {
		same = same && len(s.X) == in
	}
	switch {
	case in < 1 || in > 16:
		return api.ErrArg
	case !same:
		return api.ErrShape
	case len(l) < 1 || len(l) > 64:
		return api.ErrArg
	}
	return api.OK
}

// wrongWith is what is wrong with a line and samples, where it is not that a number goes over.
func wrongWith(in int, x trial) api.Errno {
	if e := shape(in, x.w, x.l); e != api.OK {
		return e
	}
	if x.frac < 0 || x.frac > 30 {
		return api.ErrArg
	}
	return api.OK
}

// went is the error that is told of numbers.
func (r *reckoner) went() api.Errno {
	if r.over {
		return api.ErrOver
	}
	return api.OK
}

// counts are how many times each error was told, so that none is left out.
type counts [9]int

func (c *counts) check(t *testing.T, e ...api.Errno) {
	t.Helper()
	for _, one := range e {
		if c[one] < 100 {
			t.Errorf("%d is told %d times", one, c[one])
		}
	}
}

// P14.1: Check is as the words tell it, for as many as the line sees, and for others.
func TestCheckIsAsTheWordsTell(t *testing.T) {
	var all counts
	for _, x := range trials() {
		for in := len(x.w) - 3; in <= len(x.w)+1; in++ {
			got, want := linear.Check(in, x.w, x.l...), shape(in, x.w, x.l)
			if got != want {
				t.Fatalf("Check(%d, %v): got %d, not %d", in, x, got, want)
			}
			all[got]++
		}
	}
	all.check(t, api.OK, api.ErrArg, api.ErrShape)
}

// P14.2: what is told, and how far that is off, is as the words tell it.
func TestToldIsAsTheWordsTell(t *testing.T) {
	var all counts
	for _, x := range trials() {
		s := x.l[len(x.l)-1]
		wantTold, wantOff := new(big.Int), new(big.Int)
		e := wrongWith(len(s.X), trial{x.w, x.frac, []api.Sample{s}})
		f := e
		if e == api.OK {
			var r reckoner
			wantTold = r.tell(x.w, s.X, x.frac)
			e = r.went()
			wantOff = r.off(x.w, s, x.frac)
			f = r.went()
		}
		checkNumber(t, "Tell", x, wantTold, e)(linear.Tell(x.w, s.X, x.frac))
		checkNumber(t, "Off", x, wantOff, f)(linear.Off(x.w, s, x.frac))
		all[f]++
	}
	all.check(t, api.OK, api.ErrArg, api.ErrShape, api.ErrOver)
}

// checkNumber tells when a number, or the error beside it, is another one than is wanted; beside an error it is to be 0.
func checkNumber(t *testing.T, name string, x trial, want *big.Int, e api.Errno) func(int64, api.Errno) {
	return func(got int64, f api.Errno) {
		t.Helper()
		if e != api.OK {
			want = new(big.Int)
		}
		if whole(got).Cmp(want) != 0 || f != e {
			t.Fatalf("%s of %v: got %d, %d, not %d, %d", name, x, got, f, want, e)
		}
	}
}

// P14.3: how a line is to be bent is as the words tell it.
func TestGradIsAsTheWordsTell(t *testing.T) {
	var all counts
	for _, x := range trials() {
		var want []int64
		e := wrongWith(len(x.w)-1, x)
		if e == api.OK {
			var r reckoner
			sums := r.grad(x)
			if e = r.went(); e == api.OK {
				want = placed(sums)
			}
		}
		if got, f := linear.Grad(x.w, x.frac, x.l...); !slices.Equal(got, want) || f != e {
			t.Fatalf("Grad of %v: got %v, %d, not %v, %d", x, got, f, want, e)
		}
		all[e]++
	}
	all.check(t, api.OK, api.ErrArg, api.ErrShape, api.ErrOver)
}

// P14.3: how bad a line is, is as the words tell it. P14.4: it is never below 0.
func TestLossIsAsTheWordsTell(t *testing.T) {
	var all counts
	for _, x := range trials() {
		want := new(big.Int)
		e := wrongWith(len(x.w)-1, x)
		if e == api.OK {
			var r reckoner
			want = r.loss(x)
			e = r.went()
		}
		checkNumber(t, "Loss", x, want, e)(linear.Loss(x.w, x.frac, x.l...))
		if got, _ := linear.Loss(x.w, x.frac, x.l...); got < 0 {
			t.Fatalf("Loss of %v: got %d", x, got)
		}
		all[e]++
	}
	all.check(t, api.OK, api.ErrArg, api.ErrShape, api.ErrOver)
}

// P14.3: a mean is the n-th part of the sum, whatever n is.
func TestMeanIsAsTheWordsTell(t *testing.T) {
	c := chance(15)
	fine := 0
	for range 5000 {
		dim, bits := int(c.next()%5), []uint64{3, 20, 61, 64}[c.next()%4]
		n := int(c.number([]uint64{4, 10, 64}[c.next()%3]))
		var l [][]int64
		for range c.next() % 6 {
			l = append(l, c.numbers(dim, bits))
		}
		sum, e := vec.Sum(l...)
		var want []int64
		if n < 1 {
			e = api.ErrArg
		}
		for i := 0; e == api.OK && i < len(sum); i++ {
			want = append(want, down(whole(sum[i]), n).Int64())
			fine++
		}
		if got, f := linear.Mean(n, l...); !slices.Equal(got, want) || f != e {
			t.Fatalf("Mean(%d, %v): got %v, %d, not %v, %d", n, l, got, f, want, e)
		}
	}
	if fine < 2000 {
		t.Errorf("%d are fine", fine)
	}
}

// P14.4: a line that tells just what it is to has nothing to be bent, and no loss.
func TestRightLinesStay(t *testing.T) {
	fine := 0
	for _, x := range trials() {
		right := api.OK
		l := slices.Clone(x.l)
		for i, s := range l {
			y, e := linear.Tell(x.w, s.X, x.frac)
			l[i].Y, right = y, max(right, e)
		}
		if right != api.OK || len(l) > api.MaxBatch {
			continue
		}
		fine++
		if got, e := linear.Grad(x.w, x.frac, l...); !slices.Equal(got, make([]int64, len(x.w))) || e != api.OK {
			t.Fatalf("Grad of %v: got %v, %d", x, got, e)
		}
		if got, e := linear.Loss(x.w, x.frac, l...); got != 0 || e != api.OK {
			t.Fatalf("Loss of %v: got %d, %d", x, got, e)
		}
	}
	if fine < 1000 {
		t.Errorf("%d are right", fine)
	}
}

// turned are samples in other orders.
func (c *chance) turned(l []api.Sample) []api.Sample {
	l = slices.Clone(l)
	for i := range l {
		k := int(c.next() % uint64(i+1))
		l[i], l[k] = l[k], l[i]
	}
	return l
}

// P14.4: samples in another order make no difference, where no sum goes over on the way.
func TestOrderMakesNoDifference(t *testing.T) {
	c := chance(16)
	fine := 0
	for _, x := range trials() {
		grad, e := linear.Grad(x.w, x.frac, x.l...)
		loss, f := linear.Loss(x.w, x.frac, x.l...)
		for range 3 {
			l := c.turned(x.l)
			if got, g := linear.Loss(x.w, x.frac, l...); got != loss || g != f {
				t.Fatalf("Loss of %v: got %d, %d, not %d, %d", x, got, g, loss, f)
			}
			got, g := linear.Grad(x.w, x.frac, l...)
			if e == api.ErrOver || g == api.ErrOver {
				continue
			}
			if !slices.Equal(got, grad) || g != e {
				t.Fatalf("Grad of %v: got %v, %d, not %v, %d", x, got, g, grad, e)
			}
			fine++
		}
	}
	if fine < 3000 {
		t.Errorf("%d are fine", fine)
	}
}

// P14.4: of one sample a line is to be bent by X so many times as it is off, and by that.
func TestGradOfOneSample(t *testing.T) {
	fine := 0
	for _, x := range trials() {
		s := x.l[0]
		off, e := linear.Off(x.w, s, x.frac)
		if e != api.OK {
			continue
		}
		want, e := vec.Scale(s.X, off, x.frac)
		if e != api.OK {
			continue
		}
		fine++
		if got, e := linear.Grad(x.w, x.frac, s); !slices.Equal(got, append(want, off)) || e != api.OK {
			t.Fatalf("Grad of %v: got %v, %d, not %v, %d", x, got, e, want, off)
		}
	}
	if fine < 1000 {
		t.Errorf("%d are fine", fine)
	}
}
