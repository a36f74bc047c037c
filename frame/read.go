package frame

import (
	"thrum/api"
	"thrum/crc"
	"thrum/index"
	"thrum/leb"
	"thrum/plane"
)

// Read is the frame whose text it is.
func Read(b []byte) (api.Frame, api.Errno) {
	opened, e := crc.Open(b)
	if e != api.OK {
		return api.Frame{}, e
	}
	r := reader{text: text{b: opened}}
	f := r.frame()
	// Parts that can be read may still be none that a frame has.
	if r.none || r.at < len(r.b) || Check(f) != api.OK {
		return api.Frame{}, api.ErrForm
	}
	return f, api.OK
}

// text is bytes, and the place up to which they are read.
type text struct {
	b  []byte
	at int
}

// reader reads a text part by part. Behind a part that is none it goes on from where that stands, and what comes of it is thrown away at the end.
type reader struct {
	text
	none bool
}

// pass goes on to the place behind a part, or keeps that it is none.
func (r *reader) pass(at int, e api.Errno) {
	if e != api.OK {
		r.none = true
		return
	}
	r.at = at
}

// take is the next so many bytes.
func (r *reader) take(many int) []byte {
	if many > len(r.b)-r.at {
		r.none = true
		return nil
	}
	from := r.at
	r.at += many
	return r.b[from:r.at]
}

// one is the next byte.
func (r *reader) one() int {
	b := r.take(1)
	if len(b) == 0 {
		return 0
	}
	return int(b[0])
}

// number is the next code's. One beyond an int goes around to below 0, where no part of a frame may be.
func (r *reader) number() int {
	n, at, e := leb.Get(r.b, r.at)
	r.pass(at, e)
	return int(n)
}

// numbers are those of the next so many signed codes.
func (r *reader) numbers(many int) []int64 {
	codes, at, e := leb.Many(r.b, r.at, many)
	r.pass(at, e)
	l := make([]int64, len(codes))
	for i, n := range codes {
		l[i] = leb.Zag(n)
	}
	return l
}

// signs are the next so many.
func (r *reader) signs(many int) []bool {
	// Of an error of Bytes there is nothing to be told here: Read has it, too.
	size, _ := plane.Bytes(signWidth, many)
	l, e := plane.Read(many, r.take(size))
	r.pass(r.at, e)
	return l
}

// planes are the next so many numbers of a width.
func (r *reader) planes(width, many int) []uint64 {
	// Of an error of Bytes there is nothing to be told here: Unweave has it, too.
	size, _ := plane.Bytes(width, many)
	l, e := plane.Unweave(width, many, r.take(size))
	r.pass(r.at, e)
	return l
}

func (r *reader) frame() api.Frame {
	if r.one() != mark {
		r.none = true
	}
	f := api.Frame{Kind: r.one(), From: r.number(), Step: r.number()}
	if f.Kind == api.DataK {
		f.S = r.vector()
	}
	return f
}

func (r *reader) vector() api.Sent {
	s := api.Sent{Scheme: r.one(), Dim: r.number()}
	bodies := map[int]func(*api.Sent){
		api.DenseS: r.dense,
		api.TopS:   r.top,
		api.LevelS: r.level,
		api.SignS:  r.sign,
	}
	if body, is := bodies[s.Scheme]; is {
		body(&s)
	}
	return s
}

func (r *reader) dense(s *api.Sent) {
	s.V = r.numbers(s.Dim)
}

func (r *reader) top(s *api.Sent) {
	l, at, e := index.Get(s.Dim, r.b, r.at)
	r.pass(at, e)
	s.L, s.V = l, r.numbers(len(l))
}

func (r *reader) level(s *api.Sent) {
	s.Scale, s.Wide = int64(r.number()), r.one()
	s.Lev, s.Neg = r.planes(s.Wide, s.Dim), r.signs(s.Dim)
}

func (r *reader) sign(s *api.Sent) {
	s.Scale, s.Neg = int64(r.number()), r.signs(s.Dim)
}
