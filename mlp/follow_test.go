package mlp_test

import (
	"math/big"
	"slices"
	"testing"

	"thrum/api"
	"thrum/linear"
	"thrum/mlp"
)

// chance are numbers that look like it; others for another seed.
type chance uint64

func (c *chance) next() uint64 {
	*c = *c*6364136223846793005 + 1442695040888963407
	return uint64(*c >> 11)
}

// below is one of 0 to n less 1.
func (c *chance) below(n int) int { return int(c.next() % uint64(n)) }

// number is one of at most so many bits, or fewer, of either sign.
func (c *chance) number(bits uint64) int64 {
	return int64(c.next()<<11|c.next()%2048) >> (64 - bits + c.next()%bits)
}

func (c *chance) numbers(n int, bits uint64) []int64 {
	v := make([]int64, n)
	for i := range v {
		v[i] = c.number(bits)
	}
	return v
}

// trial are two layers and samples.
type trial struct {
	hid  int
	w    []int64
	frac int
	l    []api.Sample
}

// in is how many numbers the lines see, if they may be.
func (x trial) in() int { return (len(x.w)-1)/x.hid - 2 }

// trial is one whose numbers have at most so many bits, most of which goes together.
func (c *chance) trial(bits uint64) trial {
	in, hid := 1+c.below(api.MaxIn), 1+c.below(api.MaxHid)
	if c.below(2) == 0 {
		in, hid = 1+c.below(3), 1+c.below(3)
	}
	x := trial{hid: hid, w: c.numbers(hid*(in+2)+1, bits), frac: c.below(api.MaxFrac + 1)}
	for range 1 + c.below(6) {
		x.l = append(x.l, api.Sample{X: c.numbers(in, bits), Y: c.number(bits)})
	}
	return x
}

// spoil makes something of it wrong, or several things.
func (c *chance) spoil(x trial) trial {
	in := x.in()
	for range 1 + c.below(3) {
		switch c.below(7) {
		case 0:
			x.w = c.numbers(c.below(19)*(1+c.below(8))+c.below(3), 4)
		case 1:
			x.frac = []int{-1, 31, low, top}[c.below(4)]
		case 2:
			x.l = slices.Repeat(x.l[:1], []int{63, 64, 65, 66}[c.below(4)])
		case 3:
			x.l[c.below(len(x.l))].X = c.numbers(c.below(19), 4)
		case 4:
			x.l = append(x.l, api.Sample{X: c.numbers(in, 64), Y: c.number(64)})
		case 5:
			x.hid = []int{-1, 9, -3, 10, top, low}[c.below(6)]
		case 6:
			x.hid = 1 + c.below(8)
		}
	}
	return x
}

// trials are many, of numbers that are small, of ones that go over, and of what may not be.
func trials() []trial {
	c := chance(16)
	var l []trial
	for _, bits := range []uint64{2, 4, 7, 10, 16, 24, 30, 33, 40, 46, 62, 63, 64} {
		for range 400 {
			l = append(l, c.trial(bits))
		}
		for range 150 {
			l = append(l, c.spoil(c.trial(bits)))
		}
	}
	return l
}

// shape is what Split tells of these, as the words have it.
func shape(hid int, w []int64) api.Errno {
	if hid < 1 || hid > 8 {
		return api.ErrArg
	}
	for in := 1; in <= 16; in++ {
		if len(w) == hid*(in+1)+hid+1 {
			return api.OK
		}
	}
	return api.ErrShape
}

// match is what Check tells of these, as the words have it.
func match(in int, x trial) api.Errno {
	if in < 1 || in > 16 || x.hid < 1 || x.hid > 8 {
		return api.ErrArg
	}
	same := len(x.w) == x.hid*(in+1)+x.hid+1
	for _, s := range x.l {
		same = same && len(s.X) == in
	}
	switch {
	case !same:
		return api.ErrShape
	case len(x.l) < 1 || len(x.l) > 64:
		return api.ErrArg
	}
	return api.OK
}

// hides is what each line tells of what is seen, or 0 where that is below it, or the first error.
func (x trial) hides(seen []int64) ([]int64, api.Errno) {
	if e := shape(x.hid, x.w); e != api.OK {
		return nil, e
	}
	long := x.in() + 1
	if len(seen) != long-1 {
		return nil, api.ErrShape
	}
	if x.frac < 0 || x.frac > 30 {
		return nil, api.ErrArg
	}
	hidden := make([]int64, x.hid)
	for i := range hidden {
		number, e := linear.Tell(x.w[i*long:i*long+long], seen, x.frac)
		if e != api.OK {
			return nil, e
		}
		if number > 0 {
			hidden[i] = number
		}
	}
	return hidden, api.OK
}

// last are the last line's numbers.
func (x trial) last() []int64 { return x.w[len(x.w)-x.hid-1:] }

func (x trial) tells(seen []int64) (int64, api.Errno) {
	hidden, e := x.hides(seen)
	if e != api.OK {
		return 0, e
	}
	return linear.Tell(x.last(), hidden, x.frac)
}

func (x trial) off(s api.Sample) (int64, api.Errno) {
	told, e := x.tells(s.X)
	if e != api.OK {
		return 0, e
	}
	off := new(big.Int).Sub(big.NewInt(told), big.NewInt(s.Y))
	if !off.IsInt64() {
		return 0, api.ErrOver
	}
	return off.Int64(), api.OK
}

// reckoner sums up in numbers without end, and keeps whether a sum or a part of one has no place in 64 bits.
type reckoner struct {
	sum  big.Int
	over bool
}

func (r *reckoner) add(n *big.Int) {
	r.sum.Add(&r.sum, n)
	r.over = r.over || !n.IsInt64() || !r.sum.IsInt64()
}

// part is the n-th part of the sum, down.
func (r *reckoner) part(n int) int64 {
	part, rest := new(big.Int).QuoRem(&r.sum, big.NewInt(int64(n)), new(big.Int))
	if rest.Sign() < 0 {
		part.Sub(part, big.NewInt(1))
	}
	return part.Int64()
}

// by is a product, of which frac bits are cut off, down.
func by(a, b *big.Int, frac int) *big.Int {
	n := new(big.Int).Mul(a, b)
	return n.Rsh(n, uint(frac))
}

// parts is how one sample bends the layers, number by number, without end.
func (x trial) parts(s api.Sample) ([]*big.Int, api.Errno) {
	off, e := x.off(s)
	if e != api.OK {
		return nil, e
	}
	hidden, _ := x.hides(s.X)
	whole, rest := big.NewInt(off), make([]*big.Int, 0, x.hid+1)
	var l []*big.Int
	for i, number := range hidden {
		back := new(big.Int)
		if number > 0 {
			back = by(whole, big.NewInt(x.last()[i]), x.frac)
		}
		for _, n := range s.X {
			l = append(l, by(big.NewInt(n), back, x.frac))
		}
		l = append(l, back)
		rest = append(rest, by(big.NewInt(number), whole, x.frac))
	}
	return append(append(l, rest...), whole), api.OK
}

// grad is how layers are to be bent, number by number.
func (x trial) grad() ([]int64, api.Errno) {
	if e := shape(x.hid, x.w); e != api.OK {
		return nil, e
	}
	if e := match(x.in(), x); e != api.OK {
		return nil, e
	}
	sums := make([]reckoner, len(x.w))
	for _, s := range x.l {
		l, e := x.parts(s)
		if e != api.OK {
			return nil, e
		}
		for i, n := range l {
			sums[i].add(n)
		}
	}
	bent := make([]int64, len(x.w))
	for i := range sums {
		if sums[i].over {
			return nil, api.ErrOver
		}
		bent[i] = sums[i].part(len(x.l))
	}
	return bent, api.OK
}

// counts are how many times each error was told, so that none is left out.
type counts [9]int

func (c *counts) check(t *testing.T, e ...api.Errno) {
	t.Helper()
	for _, one := range e {
		if c[one] < 100 {
			t.Errorf("%d is told %d times", one, c[one])
		}
	}
}

// P16.1: Check is as the words tell it, for as many as the lines see, and for others.
func TestCheckIsAsTheWordsTell(t *testing.T) {
	var all counts
	for _, x := range trials() {
		for _, in := range []int{len(x.l[0].X) - 1, len(x.l[0].X), len(x.l[0].X) + 1, x.in()} {
			got, want := mlp.Check(in, x.hid, x.w, x.l...), match(in, x)
			if got != want {
				t.Fatalf("Check(%d, %v): got %d, not %d", in, x, got, want)
			}
			all[got]++
		}
	}
	all.check(t, api.OK, api.ErrArg, api.ErrShape)
}

// P16.1: lines one behind the other, and the last one, are what they were cut from.
func TestSplitIsAllOfIt(t *testing.T) {
	var all counts
	for _, x := range trials() {
		lines, last, e := mlp.Split(x.hid, x.w)
		want := x.w
		if e != api.OK {
			want = nil
		}
		if w := append(slices.Concat(lines...), last...); !slices.Equal(w, want) || e != shape(x.hid, x.w) {
			t.Fatalf("Split(%d, %v): got %v, %v, %d", x.hid, x.w, lines, last, e)
		}
		for i, line := range lines {
			if len(line) != len(lines[0]) || len(lines) != x.hid {
				t.Fatalf("Split(%d, %v), line %d: got %v", x.hid, x.w, i, line)
			}
		}
		all[e]++
	}
	all.check(t, api.OK, api.ErrArg, api.ErrShape)
}

// P16.2, P16.4: what is hidden is as the words tell it, and never below 0.
func TestHiddenIsAsTheWordsTell(t *testing.T) {
	var all counts
	none, some := 0, 0
	for _, x := range trials() {
		seen := x.l[len(x.l)-1].X
		want, e := x.hides(seen)
		got, f := mlp.Hidden(x.hid, x.w, seen, x.frac)
		if !slices.Equal(got, want) || f != e {
			t.Fatalf("Hidden of %v: got %v, %d, not %v, %d", x, got, f, want, e)
		}
		all[e]++
		for _, n := range got {
			switch {
			case n < 0:
				t.Fatalf("Hidden of %v: got %v", x, got)
			case n == 0:
				none++
			default:
				some++
			}
		}
	}
	all.check(t, api.OK, api.ErrArg, api.ErrShape, api.ErrOver)
	if none < 2000 || some < 2000 {
		t.Errorf("%d are 0, %d are not", none, some)
	}
}

// P16.2: what is told is as the words tell it.
func TestToldIsAsTheWordsTell(t *testing.T) {
	var all, hidden counts
	for _, x := range trials() {
		seen := x.l[len(x.l)-1].X
		want, e := x.tells(seen)
		if got, f := mlp.Tell(x.hid, x.w, seen, x.frac); got != want || f != e {
			t.Fatalf("Tell of %v: got %d, %d, not %d, %d", x, got, f, want, e)
		}
		all[e]++
		_, e = x.hides(seen)
		hidden[e]++
	}
	all.check(t, api.OK, api.ErrArg, api.ErrShape, api.ErrOver)
	if all[api.ErrOver] <= hidden[api.ErrOver] {
		t.Errorf("what is told goes over %d times, what is hidden %d times", all[api.ErrOver], hidden[api.ErrOver])
	}
}

// P16.2: what a sample is off is as the words tell it.
func TestOffIsAsTheWordsTell(t *testing.T) {
	var all counts
	for _, x := range trials() {
		for _, s := range x.l[:min(6, len(x.l))] {
			want, e := x.off(s)
			if got, f := mlp.Off(x.hid, x.w, s, x.frac); got != want || f != e {
				t.Fatalf("Off(%v) of %v: got %d, %d, not %d, %d", s, x, got, f, want, e)
			}
			all[e]++
		}
	}
	all.check(t, api.OK, api.ErrArg, api.ErrShape, api.ErrOver)
}

// P16.3: how layers are to be bent is as the words tell it.
func TestGradIsAsTheWordsTell(t *testing.T) {
	var all counts
	for _, x := range trials() {
		want, e := x.grad()
		if got, f := mlp.Grad(x.hid, x.w, x.frac, x.l...); !slices.Equal(got, want) || f != e {
			t.Fatalf("Grad of %v: got %v, %d, not %v, %d", x, got, f, want, e)
		}
		all[e]++
	}
	all.check(t, api.OK, api.ErrArg, api.ErrShape, api.ErrOver)
}

// zero tells whether all numbers are 0.
func zero(v []int64) bool {
	return !slices.ContainsFunc(v, func(n int64) bool { return n != 0 })
}

// P16.4: with a last line of zeros but its base the lines ahead of it are not to be bent.
func TestALastLineOfZeros(t *testing.T) {
	fine, bent := 0, 0
	for _, x := range trials() {
		if shape(x.hid, x.w) != api.OK {
			continue
		}
		x.w = slices.Clone(x.w)
		ahead := len(x.w) - x.hid - 1
		clear(x.w[ahead : len(x.w)-1])
		got, e := mlp.Grad(x.hid, x.w, x.frac, x.l...)
		if e != api.OK {
			continue
		}
		fine++
		if !zero(got[:ahead]) {
			t.Fatalf("Grad of %v: got %v", x, got)
		}
		if !zero(got[ahead:]) {
			bent++
		}
	}
	if fine < 2000 || bent < 1000 {
		t.Errorf("%d are fine, of %d the last line is bent", fine, bent)
	}
}

// right is a sample that is told right.
func (x trial) right(s api.Sample) (api.Sample, api.Errno) {
	told, e := mlp.Tell(x.hid, x.w, s.X, x.frac)
	return api.Sample{X: s.X, Y: told}, e
}

// P16.4: a sample that is told right bends nothing, also beside others.
func TestASampleToldRight(t *testing.T) {
	fine, beside := 0, 0
	for _, x := range trials() {
		right, e := x.right(x.l[0])
		if e != api.OK {
			continue
		}
		if off, e := mlp.Off(x.hid, x.w, right, x.frac); off != 0 || e != api.OK {
			t.Fatalf("Off(%v) of %v: got %d, %d", right, x, off, e)
		}
		if got, e := mlp.Grad(x.hid, x.w, x.frac, right); !zero(got) || len(got) != len(x.w) || e != api.OK {
			t.Fatalf("Grad of %v, of %v: got %v, %d", x, right, got, e)
		}
		fine++
		// A part of what one sample bends is half as much beside one that bends nothing.
		alone, e := mlp.Grad(x.hid, x.w, x.frac, x.l[len(x.l)-1])
		if e != api.OK {
			continue
		}
		beside++
		for i, n := range alone {
			alone[i] = n >> 1
		}
		if got, e := mlp.Grad(x.hid, x.w, x.frac, right, x.l[len(x.l)-1]); !slices.Equal(got, alone) || e != api.OK {
			t.Fatalf("Grad of %v, beside %v: got %v, %d, not %v", x, right, got, e, alone)
		}
	}
	if fine < 2000 || beside < 2000 {
		t.Errorf("%d are fine, %d beside others", fine, beside)
	}
}

// P16.3: the last line is bent as linear bends it, with what is hidden of each sample as what it sees.
func TestTheLastLineIsBentAsLinear(t *testing.T) {
	fine := 0
	for _, x := range trials() {
		got, e := mlp.Grad(x.hid, x.w, x.frac, x.l...)
		if e != api.OK {
			continue
		}
		fine++
		_, last, _ := mlp.Split(x.hid, x.w)
		var l []api.Sample
		for _, s := range x.l {
			hidden, _ := mlp.Hidden(x.hid, x.w, s.X, x.frac)
			l = append(l, api.Sample{X: hidden, Y: s.Y})
		}
		want, e := linear.Grad(last, x.frac, l...)
		if _, bent, _ := mlp.Split(x.hid, got); !slices.Equal(bent, want) || e != api.OK {
			t.Fatalf("Grad of %v: got %v, not %v, %d", x, bent, want, e)
		}
	}
	if fine < 2000 {
		t.Errorf("%d are fine", fine)
	}
}

// P16.3: by one sample a line that hides 0 is not bent, and one with 0 at its place in the last line is not, either.
func TestLinesThatAreNotBent(t *testing.T) {
	hiding, zeros := 0, 0
	for _, x := range trials() {
		s := x.l[0]
		got, e := mlp.Grad(x.hid, x.w, x.frac, s)
		if e != api.OK {
			continue
		}
		hidden, _ := mlp.Hidden(x.hid, x.w, s.X, x.frac)
		lines, _, _ := mlp.Split(x.hid, got)
		for i, line := range lines {
			if hidden[i] == 0 {
				hiding++
			}
			if x.last()[i] == 0 {
				zeros++
			}
			if (hidden[i] == 0 || x.last()[i] == 0) && !zero(line) {
				t.Fatalf("Grad of %v: got %v at %d", x, line, i)
			}
		}
	}
	if hiding < 1000 || zeros < 500 {
		t.Errorf("%d hide 0, %d have 0", hiding, zeros)
	}
}
