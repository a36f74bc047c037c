package mlp

import (
	"slices"

	"thrum/api"
	"thrum/fix"
	"thrum/linear"
	"thrum/vec"
)

// line is a line's numbers, its base behind them, and how many it sees.
type line struct {
	w  []int64
	in int
}

// own are a line's numbers, for whoever asked for them to write into.
func (l line) own() []int64 {
	return slices.Clone(l.w)
}

// net is two layers: the last line, and those ahead of it, which hide what it sees.
type net struct {
	line
	ahead []line
}

// hides tells whether there may be so many lines ahead of the last one.
func hides(hid int) bool {
	return hid >= 1 && hid <= api.MaxHid
}

// split cuts two layers into lines, which go on sharing w: they are only read.
func split(hid int, w []int64) (net, api.Errno) {
	if !hides(hid) {
		return net{}, api.ErrArg
	}
	first := len(w) - (hid + 1)
	in := first/hid - 1
	if dim, e := Dim(in, hid); e != api.OK || len(w) != dim {
		return net{}, api.ErrShape
	}
	n := net{line: line{w: w[first:], in: hid}}
	for part := range slices.Chunk(w[:first], in+1) {
		n.ahead = append(n.ahead, line{w: part, in: in})
	}
	return n, api.OK
}

// sees is how many numbers the lines ahead see, one as many as the other.
func (n net) sees() int {
	return n.ahead[0].in
}

// hide is what is hidden of x.
func (n net) hide(x []int64, frac int) ([]int64, api.Errno) {
	if len(x) != n.sees() {
		return nil, api.ErrShape
	}
	told := make([]int64, 0, n.in)
	for _, l := range n.ahead {
		// The shapes are right by now, so that linear tells of frac ahead of all else.
		number, e := linear.Tell(l.w, x, frac)
		if e != api.OK {
			return nil, e
		}
		told = append(told, number)
	}
	return Bend(told...)
}

// off is what is hidden of a sample, and how far what is told of that is off.
func (n net) off(s api.Sample, frac int) ([]int64, int64, api.Errno) {
	hidden, e := n.hide(s.X, frac)
	if e != api.OK {
		return nil, 0, e
	}
	off, e := linear.Off(n.w, api.Sample{X: hidden, Y: s.Y}, frac)
	return hidden, off, e
}

// back is how far each line ahead is off, if what is told is off so far.
func (n net) back(hidden []int64, off int64, frac int) ([]int64, api.Errno) {
	back := make([]int64, len(hidden))
	for i, number := range hidden {
		// A line that hides 0 has no part in what is told.
		if number == 0 {
			continue
		}
		var e api.Errno
		if back[i], e = fix.Mul(off, n.w[i], frac); e != api.OK {
			return nil, e
		}
	}
	return back, api.OK
}

// bend is how one sample bends all lines.
func (n net) bend(s api.Sample, frac int) ([]int64, api.Errno) {
	hidden, off, e := n.off(s, frac)
	if e != api.OK {
		return nil, e
	}
	back, e := n.back(hidden, off, frac)
	if e != api.OK {
		return nil, e
	}
	var bent []int64
	for _, number := range back {
		if bent, e = put(bent, s.X, number, frac); e != api.OK {
			return nil, e
		}
	}
	return put(bent, hidden, off, frac)
}

// put puts behind the others how a line is bent that sees x and is so far off.
func put(bent, x []int64, off int64, frac int) ([]int64, api.Errno) {
	v, e := vec.Scale(x, off, frac)
	if e != api.OK {
		return nil, e
	}
	// The base sees 1 of every sample, so that its part is what the line is off.
	return append(append(bent, v...), off), api.OK
}
