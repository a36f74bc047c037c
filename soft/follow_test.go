package soft_test

import (
	"math/big"
	"slices"
	"testing"

	"thrum/api"
	"thrum/linear"
	"thrum/soft"
	"thrum/table"
)

// chance are numbers that look like it; others for another seed.
type chance uint64

func (c *chance) next() uint64 {
	*c = *c*6364136223846793005 + 1442695040888963407
	return uint64(*c >> 11)
}

// below is one of 0 to n less 1.
func (c *chance) below(n int) int { return int(c.next() % uint64(n)) }

// number is one of at most so many bits, or fewer, of either sign.
func (c *chance) number(bits uint64) int64 {
	return int64(c.next()<<11|c.next()%2048) >> (64 - bits + c.next()%bits)
}

func (c *chance) numbers(n int, bits uint64) []int64 {
	v := make([]int64, n)
	for i := range v {
		v[i] = c.number(bits)
	}
	return v
}

// trial are lines and samples.
type trial struct {
	out  int
	w    []int64
	frac int
	l    []api.Sample
}

// in is how many numbers lines see, if they may be.
func (x trial) in() int { return len(x.w)/x.out - 1 }

// trial is one whose numbers have at most so many bits, most of which goes together.
func (c *chance) trial(bits uint64) trial {
	in, out := 1+c.below(api.MaxIn), 2+c.below(api.MaxOut-1)
	if c.below(2) == 0 {
		in = 1 + c.below(3)
	}
	x := trial{out: out, w: c.numbers(out*(in+1), bits), frac: c.below(api.MaxFrac + 1)}
	for range 1 + c.below(6) {
		x.l = append(x.l, api.Sample{X: c.numbers(in, bits), Y: int64(c.below(out))})
	}
	return x
}

// spoil makes something of it wrong, or several things.
func (c *chance) spoil(x trial) trial {
	in := x.in()
	for range 1 + c.below(3) {
		one := c.below(len(x.l))
		switch c.below(8) {
		case 0:
			x.w = c.numbers(c.below(19)*(2+c.below(7))+c.below(2), 4)
		case 1:
			x.frac = []int{-1, 31, low, top}[c.below(4)]
		case 2:
			x.l = slices.Repeat(x.l[:1], []int{63, 64, 65, 66}[c.below(4)])
		case 3:
			x.l[one].X = c.numbers(c.below(19), 4)
		case 4:
			x.l = append(x.l, api.Sample{X: c.numbers(in, 64), Y: int64(c.below(2))})
		case 5:
			x.l[one].Y = list(-1, int64(x.out), 9, top, low, 1<<32)[c.below(6)]
		case 6:
			x.out = []int{1, 9, -3, 10, top, low}[c.below(6)]
		case 7:
			x.out = 2 + c.below(7)
		}
	}
	return x
}

// trials are many, of numbers that are small, of ones that go over, and of what may not be.
func trials() []trial {
	c := chance(15)
	var l []trial
	for _, bits := range []uint64{2, 4, 7, 10, 16, 24, 30, 33, 40, 46, 62, 63, 64} {
		for range 300 {
			l = append(l, c.trial(bits))
		}
		for range 150 {
			l = append(l, c.spoil(c.trial(bits)))
		}
	}
	return l
}

// shape is what Rows tells of these, as the words have it.
func shape(out int, w []int64) api.Errno {
	if out < 2 || out > 8 {
		return api.ErrArg
	}
	for in := 1; in <= 16; in++ {
		if len(w) == out*in+out {
			return api.OK
		}
	}
	return api.ErrShape
}

// match is what Check tells of these, as the words have it.
func match(in int, x trial) api.Errno {
	if in < 1 || in > 16 || x.out < 2 || x.out > 8 {
		return api.ErrArg
	}
	same, classes := len(x.w) == x.out*in+x.out, true
	for _, s := range x.l {
		same = same && len(s.X) == in
		classes = classes && slices.Contains(list(0, 1, 2, 3, 4, 5, 6, 7)[:x.out], s.Y)
	}
	switch {
	case !same:
		return api.ErrShape
	case len(x.l) < 1 || len(x.l) > 64 || !classes:
		return api.ErrArg
	}
	return api.OK
}

// fits is what Grad and Right tell ahead of all numbers, as the words have it.
func fits(x trial) api.Errno {
	if e := shape(x.out, x.w); e != api.OK {
		return e
	}
	return match(x.in(), x)
}

// tells is what each line tells of what is seen, or the first error.
func (x trial) tells(seen []int64) ([]int64, api.Errno) {
	if e := shape(x.out, x.w); e != api.OK {
		return nil, e
	}
	long := x.in() + 1
	if len(seen) != long-1 {
		return nil, api.ErrShape
	}
	if x.frac < 0 || x.frac > 30 {
		return nil, api.ErrArg
	}
	told := make([]int64, x.out)
	for i := range told {
		var e api.Errno
		if told[i], e = linear.Tell(x.w[i*long:i*long+long], seen, x.frac); e != api.OK {
			return nil, e
		}
	}
	return told, api.OK
}

// shares is how the whole is shared, class where the first of the greatest numbers stands, off how far a sample is off.
func (x trial) shares(seen []int64) ([]int64, api.Errno) {
	told, e := x.tells(seen)
	if e != api.OK {
		return nil, e
	}
	return table.Soft(x.frac, told...)
}

func (x trial) class(seen []int64) (int, api.Errno) {
	told, e := x.tells(seen)
	if e != api.OK {
		return 0, e
	}
	return slices.Index(told, slices.Max(told)), api.OK
}

func (x trial) off(s api.Sample) ([]int64, api.Errno) {
	off, e := x.shares(s.X)
	if e != api.OK {
		return nil, e
	}
	if s.Y < 0 || s.Y >= int64(x.out) {
		return nil, api.ErrArg
	}
	off[s.Y] -= 1 << x.frac
	return off, api.OK
}

// reckoner sums up in numbers without end, and keeps whether a sum or a part of one has no place in 64 bits.
type reckoner struct {
	sum  big.Int
	over bool
}

func (r *reckoner) add(n *big.Int) {
	r.sum.Add(&r.sum, n)
	r.over = r.over || !n.IsInt64() || !r.sum.IsInt64()
}

// part is the n-th part of the sum, down.
func (r *reckoner) part(n int) int64 {
	part, rest := new(big.Int).QuoRem(&r.sum, big.NewInt(int64(n)), new(big.Int))
	if rest.Sign() < 0 {
		part.Sub(part, big.NewInt(1))
	}
	return part.Int64()
}

// by is a product, of which frac bits are cut off, down.
func by(a, b int64, frac int) *big.Int {
	n := new(big.Int).Mul(big.NewInt(a), big.NewInt(b))
	return n.Rsh(n, uint(frac))
}

// offs are how far all samples are off, or the first error.
func (x trial) offs() ([][]int64, api.Errno) {
	var l [][]int64
	for _, s := range x.l {
		off, e := x.off(s)
		if e != api.OK {
			return nil, e
		}
		l = append(l, off)
	}
	return l, api.OK
}

// grad is how lines are to be bent, number by number.
func (x trial) grad() ([]int64, api.Errno) {
	if e := fits(x); e != api.OK {
		return nil, e
	}
	offs, e := x.offs()
	if e != api.OK {
		return nil, e
	}
	long := x.in() + 1
	bent := make([]int64, len(x.w))
	for i := range bent {
		line, place := i/long, i%long
		var r reckoner
		for k, s := range x.l {
			if place < len(s.X) {
				r.add(by(s.X[place], offs[k][line], x.frac))
			} else {
				r.add(big.NewInt(offs[k][line]))
			}
		}
		if r.over {
			return nil, api.ErrOver
		}
		bent[i] = r.part(len(x.l))
	}
	return bent, api.OK
}

// right is of how many samples the class is told.
func (x trial) right() (int, api.Errno) {
	if e := fits(x); e != api.OK {
		return 0, e
	}
	right := 0
	for _, s := range x.l {
		told, e := x.class(s.X)
		if e != api.OK {
			return 0, e
		}
		if s.Y == int64(told) {
			right++
		}
	}
	return right, api.OK
}

// counts are how many times each error was told, so that none is left out.
type counts [9]int

func (c *counts) check(t *testing.T, e ...api.Errno) {
	t.Helper()
	for _, one := range e {
		if c[one] < 100 {
			t.Errorf("%d is told %d times", one, c[one])
		}
	}
}

// P15.1: Check is as the words tell it, for as many as the lines see, and for others.
func TestCheckIsAsTheWordsTell(t *testing.T) {
	var all counts
	for _, x := range trials() {
		for _, in := range []int{len(x.l[0].X) - 1, len(x.l[0].X), len(x.l[0].X) + 1, x.in()} {
			got, want := soft.Check(in, x.out, x.w, x.l...), match(in, x)
			if got != want {
				t.Fatalf("Check(%d, %v): got %d, not %d", in, x, got, want)
			}
			all[got]++
		}
	}
	all.check(t, api.OK, api.ErrArg, api.ErrShape)
}

// P15.1: lines one behind the other are what they were cut from.
func TestRowsAreAllOfIt(t *testing.T) {
	var all counts
	for _, x := range trials() {
		got, e := soft.Rows(x.out, x.w)
		want := x.w
		if e != api.OK {
			want = nil
		}
		if w := slices.Concat(got...); !slices.Equal(w, want) || e != shape(x.out, x.w) {
			t.Fatalf("Rows(%d, %v): got %v, %d", x.out, x.w, got, e)
		}
		for i, line := range got {
			if dim, f := linear.Dim(len(line) - 1); dim != len(line) || f != api.OK {
				t.Fatalf("Rows(%d, %v), line %d: got %v", x.out, x.w, i, line)
			}
		}
		all[e]++
	}
	all.check(t, api.OK, api.ErrArg, api.ErrShape)
}

// P15.2: shares, and the class, are as the words tell it.
func TestToldIsAsTheWordsTell(t *testing.T) {
	var shared, classed counts
	for _, x := range trials() {
		seen := x.l[len(x.l)-1].X
		shares, e := x.shares(seen)
		if got, f := soft.Tell(x.out, x.w, seen, x.frac); !slices.Equal(got, shares) || f != e {
			t.Fatalf("Tell of %v: got %v, %d, not %v, %d", x, got, f, shares, e)
		}
		shared[e]++
		class, e := x.class(seen)
		if got, f := soft.Class(x.out, x.w, seen, x.frac); got != class || f != e {
			t.Fatalf("Class of %v: got %v, %d, not %v, %d", x, got, f, class, e)
		}
		classed[e]++
	}
	shared.check(t, api.OK, api.ErrArg, api.ErrShape, api.ErrOver)
	classed.check(t, api.OK, api.ErrArg, api.ErrShape, api.ErrOver)
	if shared[api.ErrOver] <= classed[api.ErrOver] {
		t.Errorf("shares go over %d times, what lines tell %d times", shared[api.ErrOver], classed[api.ErrOver])
	}
}

// P15.2: what a sample is off is as the words tell it.
func TestOffIsAsTheWordsTell(t *testing.T) {
	var all counts
	for _, x := range trials() {
		for _, s := range x.l[:min(6, len(x.l))] {
			want, e := x.off(s)
			if got, f := soft.Off(x.out, x.w, s, x.frac); !slices.Equal(got, want) || f != e {
				t.Fatalf("Off(%v) of %v: got %v, %d, not %v, %d", s, x, got, f, want, e)
			}
			all[e]++
		}
	}
	all.check(t, api.OK, api.ErrArg, api.ErrShape, api.ErrOver)
}

// P15.3: how lines are to be bent is as the words tell it.
func TestGradIsAsTheWordsTell(t *testing.T) {
	var all counts
	for _, x := range trials() {
		want, e := x.grad()
		if got, f := soft.Grad(x.out, x.w, x.frac, x.l...); !slices.Equal(got, want) || f != e {
			t.Fatalf("Grad of %v: got %v, %d, not %v, %d", x, got, f, want, e)
		}
		all[e]++
	}
	all.check(t, api.OK, api.ErrArg, api.ErrShape, api.ErrOver)
}

// P15.3: how many are right is as the words tell it.
func TestRightIsAsTheWordsTell(t *testing.T) {
	var all counts
	some := 0
	for _, x := range trials() {
		want, e := x.right()
		if got, f := soft.Right(x.out, x.w, x.frac, x.l...); got != want || f != e {
			t.Fatalf("Right of %v: got %v, %d, not %v, %d", x, got, f, want, e)
		}
		if want > 0 && want < len(x.l) {
			some++
		}
		all[e]++
	}
	all.check(t, api.OK, api.ErrArg, api.ErrShape, api.ErrOver)
	if some < 500 {
		t.Errorf("of %d some are right", some)
	}
}

// total is all numbers together.
func total(v []int64) int64 {
	sum := int64(0)
	for _, n := range v {
		sum += n
	}
	return sum
}

// P15.4: what a sample is off is together no more than 0, and above the opposite of how many classes there are; at its class it is no more than 0, at the others no less.
func TestWhatASampleIsOff(t *testing.T) {
	fine, below := 0, 0
	for _, x := range trials() {
		for _, s := range x.l[:min(6, len(x.l))] {
			off, e := soft.Off(x.out, x.w, s, x.frac)
			if e != api.OK {
				continue
			}
			fine++
			if sum := total(off); sum > 0 || sum <= int64(-x.out) {
				t.Fatalf("Off(%v) of %v: got %v, together %d", s, x, off, sum)
			} else if sum < 0 {
				below++
			}
			for i, n := range off {
				if int64(i) == s.Y && n > 0 || int64(i) != s.Y && n < 0 {
					t.Fatalf("Off(%v) of %v: got %v", s, x, off)
				}
			}
		}
	}
	if fine < 3000 || below < 500 {
		t.Errorf("%d are fine, %d of them below 0", fine, below)
	}
}

// P15.4: where all lines tell the same, together a sample is off just what of the whole is nobody's.
func TestWhatIsNobodys(t *testing.T) {
	for _, x := range []struct {
		frac, out int
		want      int64
	}{{0, 2, -1}, {0, 8, -1}, {1, 8, -2}, {2, 8, -4}, {3, 8, 0}, {4, 3, -1}, {2, 7, -4}, {5, 7, -4}, {8, 7, -4}, {4, 5, -1}, {6, 6, -4}, {4, 6, -4}} {
		for y := range x.out {
			off, e := soft.Off(x.out, many(2*x.out, 3), seen(int64(y), -1), x.frac)
			if got := total(off); got != x.want || e != api.OK {
				t.Errorf("%d classes, %d bits: got %v, together %d, not %d", x.out, x.frac, off, got, x.want)
			}
		}
	}
}

// P15.2: the class's share is the greatest. P15.3: by one sample bases are bent by what it is off, and a line where it is off nothing is not bent.
func TestOneSample(t *testing.T) {
	fine := 0
	for _, x := range trials() {
		s := x.l[0]
		grad, e := soft.Grad(x.out, x.w, x.frac, s)
		if e != api.OK {
			continue
		}
		fine++
		shares, _ := soft.Tell(x.out, x.w, s.X, x.frac)
		class, _ := soft.Class(x.out, x.w, s.X, x.frac)
		if shares[class] != slices.Max(shares) {
			t.Fatalf("%v: got %d of %v", x, class, shares)
		}
		off, _ := soft.Off(x.out, x.w, s, x.frac)
		lines, _ := soft.Rows(x.out, grad)
		for i, line := range lines {
			if line[len(line)-1] != off[i] {
				t.Fatalf("Grad of %v: got %v, not %v at the bases", x, grad, off)
			}
			if off[i] == 0 && slices.ContainsFunc(line, func(n int64) bool { return n != 0 }) {
				t.Fatalf("Grad of %v: got %v, though nothing is off at %d", x, grad, i)
			}
		}
	}
	if fine < 2000 {
		t.Errorf("%d are fine", fine)
	}
}

// P15.3: of all samples as many are right as of each by itself.
func TestRightOneByOne(t *testing.T) {
	fine := 0
	for _, x := range trials() {
		all, e := soft.Right(x.out, x.w, x.frac, x.l...)
		if e != api.OK {
			continue
		}
		fine++
		sum := 0
		for _, s := range x.l {
			one, e := soft.Right(x.out, x.w, x.frac, s)
			if one < 0 || one > 1 || e != api.OK {
				t.Fatalf("Right(%v) of %v: got %d, %d", s, x, one, e)
			}
			sum += one
		}
		if sum != all {
			t.Fatalf("Right of %v: got %d, not %d", x, all, sum)
		}
	}
	if fine < 2000 {
		t.Errorf("%d are fine", fine)
	}
}
