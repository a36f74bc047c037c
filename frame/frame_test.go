package frame_test

import (
	"math"
	"slices"
	"testing"

	"thrum/api"
	"thrum/frame"
)

const (
	top = math.MaxInt
	low = math.MinInt
)

// dense, places, levels and signs are vectors of the four schemes, with just what these name; signs and levels have as many numbers as there are signs.
func dense(v ...int64) api.Sent {
	return api.Sent{Scheme: api.DenseS, Dim: len(v), V: v}
}

func places(dim int, l []int, v ...int64) api.Sent {
	return api.Sent{Scheme: api.TopS, Dim: dim, L: l, V: v}
}

func levels(scale int64, wide int, neg []bool, lev ...uint64) api.Sent {
	return api.Sent{Scheme: api.LevelS, Dim: len(neg), Scale: scale, Wide: wide, Lev: lev, Neg: neg}
}

func signs(scale int64, neg ...bool) api.Sent {
	return api.Sent{Scheme: api.SignS, Dim: len(neg), Scale: scale, Neg: neg}
}

// data is a frame with a vector.
func data(from, step int, s api.Sent) api.Frame {
	return api.Frame{Kind: api.DataK, From: from, Step: step, S: s}
}

// many is n times the same, list are places as they are written, upTo are all of a dimension.
func many[T any](n int, x T) []T { return slices.Repeat([]T{x}, n) }

func list(l ...int) []int { return l }

func upTo(dim int) []int {
	l := make([]int, dim)
	for i := range l {
		l[i] = i
	}
	return l
}

// but is a vector with something written into it.
func but(s api.Sent, write func(s *api.Sent)) api.Sent {
	write(&s)
	return s
}

// brief is a vector with its lists cut, so that a long one can be told.
func brief(s api.Sent) api.Sent {
	s.L, s.V, s.Lev, s.Neg = s.L[:min(9, len(s.L))], s.V[:min(9, len(s.V))], s.Lev[:min(9, len(s.Lev))], s.Neg[:min(9, len(s.Neg))]
	return s
}

// equal tells whether two vectors are the same, without asking the package.
func equal(a, b api.Sent) bool {
	return a.Scheme == b.Scheme && a.Dim == b.Dim && a.Scale == b.Scale && a.Wide == b.Wide &&
		slices.Equal(a.L, b.L) && slices.Equal(a.V, b.V) && slices.Equal(a.Lev, b.Lev) && slices.Equal(a.Neg, b.Neg)
}

// equalFrames tells whether two frames are the same, without asking the package.
func equalFrames(a, b api.Frame) bool {
	return a.Kind == b.Kind && a.From == b.From && a.Step == b.Step && equal(a.S, b.S)
}

// may are vectors that may be: ordinary ones, and those at the edges.
func may() []api.Sent {
	neg := []bool{true, false, true}
	l := []api.Sent{
		dense(0), dense(7), dense(-1, 64), dense(math.MinInt64, math.MaxInt64, 0), dense(many(4096, int64(-3))...), dense(many(4095, int64(1<<40))...),
		places(1, nil), places(4, nil), places(4, list()), places(4096, nil), places(1, list(0), 5), places(9, list(1, 5), 7, -7),
		places(9, list(0, 8), 0, 0), places(4096, list(4095), math.MinInt64), places(4096, upTo(4096), many(4096, int64(math.MaxInt64))...),
		places(3, upTo(3), math.MinInt64, 0, 1), places(200, list(127, 128, 199), 63, 64, -65),
		levels(200, 2, neg, 3, 0, 1), levels(0, 1, neg, 0, 1, 0), levels(0, 8, neg, 255, 0, 1), levels(math.MaxInt64, 7, neg, 127, 126, 64),
		levels(5, 1, []bool{false}, 1), levels(5, 3, many(8, true), 0, 1, 2, 3, 4, 5, 6, 7), levels(1, 8, many(4096, true), many(4096, uint64(255))...),
		signs(5, neg...), signs(0, false), signs(0, true), signs(math.MaxInt64, neg...), signs(9, many(8, true)...), signs(9, many(9, true)...), signs(127, many(4096, true)...),
	}
	for wide := 1; wide <= 8; wide++ {
		l = append(l, levels(10, wide, []bool{false, true}, 0, 1<<wide-1))
	}
	// Of parts that nobody names, lists without elements are as good as none.
	bare := api.Sent{L: []int{}, V: []int64{}, Lev: []uint64{}, Neg: []bool{}}
	for _, s := range []api.Sent{dense(1, 2), places(4, list(), []int64{}...), places(4, list(2), 8), levels(3, 2, neg, 1, 2, 3), signs(4, neg...)} {
		l = append(l, but(bare, func(b *api.Sent) {
			b.Scheme, b.Dim, b.Scale, b.Wide = s.Scheme, s.Dim, s.Scale, s.Wide
			b.L, b.V, b.Lev, b.Neg = append(b.L, s.L...), append(b.V, s.V...), append(b.Lev, s.Lev...), append(b.Neg, s.Neg...)
		}))
	}
	return l
}

// mayNot are vectors that may not be, each with one thing wrong.
func mayNot() []api.Sent {
	neg := []bool{true, false}
	level, sign, place := levels(5, 2, neg, 3, 1), signs(5, neg...), places(9, list(1, 5), 7, -7)
	l := []api.Sent{
		{}, {V: []int64{}}, {Dim: 1}, {Dim: 2, V: []int64{1}}, {Dim: 1, V: []int64{1, 2}}, {Dim: 4096}, {V: []int64{1}}, {Dim: -1}, {Dim: low}, {Dim: top},
		dense(many(4097, int64(1))...), dense(many(5000, int64(1))...),
		{Scheme: api.TopS}, {Scheme: api.TopS, Dim: -1}, {Scheme: api.TopS, Dim: 4097}, {Scheme: api.TopS, Dim: top}, {Scheme: api.TopS, Dim: low},
		places(0, list(0), 1), places(2, list(2), 1), places(2, list(-1), 1), places(2, list(low), 1), places(2, list(top), 1), places(2, list(0, 0), 1, 1), places(2, list(1, 0), 1, 1), places(5, list(1, 5), 1, 1), places(4097, list(1), 1),
		places(2, list(1)), places(2, nil, 1), places(2, list(0, 1), 1), places(2, list(1), 1, 2), places(9, nil, many(9, int64(1))...), places(2, list(0, 1, 2), 1, 1, 1),
		{Scheme: api.LevelS, Wide: 1}, {Scheme: api.LevelS, Dim: 2, Wide: 2}, levels(1, 2, many(4097, true), many(4097, uint64(1))...),
		{Scheme: api.SignS}, {Scheme: api.SignS, Dim: 2}, {Scheme: api.SignS, Dim: -1}, signs(1, many(4097, true)...),
	}
	for _, scheme := range []int{4, 5, 255, 256, 257, 258, 259, -1, -2, -256, low, top, low + 3} {
		for _, s := range []api.Sent{dense(1, 2), place, level, sign, {Dim: 1}, {}} {
			s.Scheme = scheme
			l = append(l, s)
		}
	}
	for _, wide := range []int{0, -1, 9, 10, 16, 32, 33, 64, 256, 258, low, top} {
		l = append(l, but(level, func(s *api.Sent) { s.Wide = wide }), but(level, func(s *api.Sent) { s.Wide, s.Lev = wide, []uint64{0, 0} }))
	}
	for wide := 1; wide <= 8; wide++ {
		l = append(l, levels(5, wide, neg, 0, 1<<wide), levels(5, wide, neg, 1<<wide, 0), levels(5, wide, neg, math.MaxUint64, 0), levels(5, wide, neg, 0, 1<<32), levels(5, wide, neg, 0, 1<<63))
	}
	for _, scale := range []int64{-1, -2, math.MinInt64} {
		l = append(l, but(level, func(s *api.Sent) { s.Scale = scale }), but(sign, func(s *api.Sent) { s.Scale = scale }))
	}
	for _, dim := range []int{0, 1, 3, -2, 4096, low, top} {
		l = append(l, but(level, func(s *api.Sent) { s.Dim = dim }), but(sign, func(s *api.Sent) { s.Dim = dim }), but(dense(1, 2), func(s *api.Sent) { s.Dim = dim }))
	}
	l = append(l,
		but(level, func(s *api.Sent) { s.Lev = nil }), but(level, func(s *api.Sent) { s.Lev = s.Lev[:1] }), but(level, func(s *api.Sent) { s.Lev = many(3, uint64(1)) }),
		but(level, func(s *api.Sent) { s.Neg = nil }), but(level, func(s *api.Sent) { s.Neg = s.Neg[:1] }), but(level, func(s *api.Sent) { s.Neg = many(3, true) }),
		but(sign, func(s *api.Sent) { s.Neg = nil }), but(sign, func(s *api.Sent) { s.Neg = s.Neg[:1] }), but(sign, func(s *api.Sent) { s.Neg = many(3, true) }),
	)
	return append(l, beside()...)
}

// beside are vectors that have something beside what their schemes name.
func beside() []api.Sent {
	all := func(s *api.Sent) []func() {
		return []func(){
			func() { s.L = list(0) },
			func() { s.V = []int64{0} },
			func() { s.Scale = 1 },
			func() { s.Scale = -1 },
			func() { s.Scale = 1 << 32 },
			func() { s.Wide = 1 },
			func() { s.Wide = -1 },
			func() { s.Lev = []uint64{0} },
			func() { s.Neg = []bool{false} },
		}
	}
	var l []api.Sent
	for _, x := range []struct {
		s   api.Sent
		not []int
	}{
		{dense(7), list(0, 2, 3, 4, 5, 6, 7, 8)},
		{dense(7, 8), list(0, 2, 5, 7, 8)},
		{places(1, list(0), 7), list(2, 3, 4, 5, 6, 7, 8)},
		{places(9, list(2), 7), list(2, 3, 4, 5, 6, 7, 8)},
		{places(1, nil), list(2, 3, 4, 5, 6, 7, 8)},
		{levels(4, 1, []bool{true}, 1), list(0, 1)},
		{signs(4, true), list(0, 1, 5, 6, 7)},
	} {
		for _, i := range x.not {
			l = append(l, but(x.s, func(s *api.Sent) { all(s)[i]() }))
		}
	}
	return l
}

// P7.1: May of vectors that may be.
func TestMay(t *testing.T) {
	for i, s := range may() {
		if !frame.May(s) {
			t.Errorf("%d: May of %v: no", i, brief(s))
		}
	}
}

// P7.1, P7.2: May, and Body, of vectors that may not be.
func TestMayNot(t *testing.T) {
	for i, s := range mayNot() {
		if frame.May(s) {
			t.Errorf("%d: May of %v: yes", i, brief(s))
		}
		if b, e := frame.Body(s); len(b) != 0 || e != api.ErrArg {
			t.Errorf("%d: Body of %v: got %v, %d", i, brief(s), b, e)
		}
	}
}

// P7.1: Check of frames that may be.
func TestCheck(t *testing.T) {
	for i, s := range may() {
		if e := frame.Check(data(i%64, i, s)); e != api.OK {
			t.Errorf("%d: Check with %v: got %d", i, brief(s), e)
		}
	}
	bare := api.Frame{Kind: api.AckK, From: 3, Step: 300, S: api.Sent{L: list(), V: []int64{}, Lev: []uint64{}, Neg: []bool{}}}
	for _, f := range []api.Frame{frame.Ack(0, 0), frame.Ack(63, 0), frame.Ack(0, 1<<30), frame.Ack(63, 1<<30), frame.Ack(3, 300), data(0, 0, dense(1)), data(63, 1<<30, dense(1)), bare} {
		if e := frame.Check(f); e != api.OK {
			t.Errorf("Check of %v: got %d", f, e)
		}
	}
}

// framesNot are frames that may not be.
func framesNot() []api.Frame {
	var l []api.Frame
	for _, from := range []int{-1, -2, 64, 65, 128, 256, low, top} {
		l = append(l, frame.Ack(from, 0), frame.Ack(from, 300), data(from, 0, dense(1)), data(from, -1, api.Sent{}))
	}
	for _, step := range []int{-1, -2, 1<<30 + 1, 1 << 31, 1 << 32, 1 << 62, low, top} {
		l = append(l, frame.Ack(0, step), frame.Ack(63, step), data(0, step, dense(1)))
	}
	for _, kind := range []int{0, 3, 4, -1, -2, 256, 257, 258, low, top, low + 1, low + 2} {
		l = append(l, api.Frame{Kind: kind}, api.Frame{Kind: kind, From: 1, Step: 2, S: dense(1)}, api.Frame{Kind: kind, From: 1, Step: 2, S: signs(1, true)})
	}
	for _, s := range mayNot() {
		l = append(l, data(1, 2, s))
	}
	for _, s := range may() {
		l = append(l, api.Frame{Kind: api.AckK, From: 1, Step: 2, S: s})
	}
	for _, s := range []api.Sent{
		{Scheme: 1}, {Scheme: 2}, {Scheme: 3}, {Scheme: -1}, {Scheme: 4}, {Dim: 1}, {Dim: -1}, {Dim: top}, {Scale: 1}, {Scale: -1}, {Scale: 1 << 32}, {Wide: 1}, {Wide: -1},
		{L: list(0)}, {V: []int64{0}}, {Lev: []uint64{0}}, {Neg: []bool{false}}, {L: upTo(5000)}, {V: many(5000, int64(0))},
	} {
		l = append(l, api.Frame{Kind: api.AckK, S: s}, api.Frame{Kind: api.AckK, From: 1, Step: 2, S: s})
	}
	return l
}

// P7.1, P7.2: Check, Write and Size of frames that may not be.
func TestCheckErrors(t *testing.T) {
	for i, f := range framesNot() {
		if e := frame.Check(f); e != api.ErrArg {
			t.Errorf("%d: Check of %d, %d, %d, %v: got %d", i, f.Kind, f.From, f.Step, brief(f.S), e)
		}
		if b, e := frame.Write(f); len(b) != 0 || e != api.ErrArg {
			t.Errorf("%d: Write of %d, %d, %d, %v: got %v, %d", i, f.Kind, f.From, f.Step, brief(f.S), b, e)
		}
		if n, e := frame.Size(f); n != 0 || e != api.ErrArg {
			t.Errorf("%d: Size of %d, %d, %d, %v: got %d, %d", i, f.Kind, f.From, f.Step, brief(f.S), n, e)
		}
	}
}

// P7.1: Ack, also of what may not be.
func TestAck(t *testing.T) {
	for _, x := range [][2]int{{3, 300}, {0, 0}, {63, 1 << 30}, {-1, 5}, {64, -5}, {low, top}, {top, low}} {
		if got, want := frame.Ack(x[0], x[1]), (api.Frame{Kind: api.AckK, From: x[0], Step: x[1]}); !equalFrames(got, want) {
			t.Errorf("Ack(%d, %d): got %v", x[0], x[1], got)
		}
	}
}

// unlike are frames no two of which are the same; what may be does not matter.
func unlike() []api.Frame {
	l := []api.Frame{{}}
	for _, n := range []int{1, 2, 3, -1, 1 << 32, low, top} {
		v, u := int64(n), uint64(n)
		l = append(l,
			api.Frame{Kind: n}, api.Frame{From: n}, api.Frame{Step: n},
			api.Frame{S: api.Sent{Scheme: n}}, api.Frame{S: api.Sent{Dim: n}}, api.Frame{S: api.Sent{Scale: v}}, api.Frame{S: api.Sent{Wide: n}},
			api.Frame{S: api.Sent{L: list(n)}}, api.Frame{S: api.Sent{V: []int64{v}}}, api.Frame{S: api.Sent{Lev: []uint64{u}}},
			api.Frame{S: api.Sent{L: list(n, 0)}}, api.Frame{S: api.Sent{V: []int64{v, 0}}}, api.Frame{S: api.Sent{Lev: []uint64{u, 0}}},
			api.Frame{S: api.Sent{L: list(0, n)}}, api.Frame{S: api.Sent{V: []int64{0, v}}}, api.Frame{S: api.Sent{Lev: []uint64{0, u}}},
		)
	}
	for _, n := range []int{1, 2, 5000} {
		l = append(l, api.Frame{S: api.Sent{L: many(n, 0)}}, api.Frame{S: api.Sent{V: many(n, int64(0))}}, api.Frame{S: api.Sent{Lev: many(n, uint64(0))}}, api.Frame{S: api.Sent{Neg: many(n, false)}}, api.Frame{S: api.Sent{Neg: many(n, true)}})
	}
	l = append(l, api.Frame{S: api.Sent{Neg: []bool{true, false}}}, api.Frame{S: api.Sent{Neg: []bool{false, true}}})
	full := api.Frame{Kind: 1, From: 2, Step: 3, S: api.Sent{Scheme: 2, Dim: 4, L: list(1, 2), V: []int64{3, 4}, Scale: 5, Wide: 6, Lev: []uint64{7, 8}, Neg: []bool{true, false}}}
	for _, write := range []func(f *api.Frame){
		func(f *api.Frame) {},
		func(f *api.Frame) { f.Kind = 2 }, func(f *api.Frame) { f.From = 3 }, func(f *api.Frame) { f.Step = 2 },
		func(f *api.Frame) { f.S.Scheme = 3 }, func(f *api.Frame) { f.S.Dim = 5 }, func(f *api.Frame) { f.S.Scale = 6 }, func(f *api.Frame) { f.S.Wide = 5 },
		func(f *api.Frame) { f.S.L = list(1, 3) }, func(f *api.Frame) { f.S.L = nil }, func(f *api.Frame) { f.S.L = list(1) },
		func(f *api.Frame) { f.S.V = []int64{3, 5} }, func(f *api.Frame) { f.S.V = nil }, func(f *api.Frame) { f.S.V = []int64{3} },
		func(f *api.Frame) { f.S.Lev = []uint64{7, 9} }, func(f *api.Frame) { f.S.Lev = nil }, func(f *api.Frame) { f.S.Lev = []uint64{7} },
		func(f *api.Frame) { f.S.Neg = []bool{true, true} }, func(f *api.Frame) { f.S.Neg = nil }, func(f *api.Frame) { f.S.Neg = []bool{true} },
	} {
		f := full
		write(&f)
		l = append(l, f)
	}
	return l
}

// P7.1: Same.
func TestSame(t *testing.T) {
	all, copies := unlike(), unlike()
	for i, a := range all {
		for j, b := range copies {
			if got := frame.Same(a, b); got != (i == j) {
				t.Errorf("Same(%d, %d): got %v of %v and %v", i, j, got, brief(a.S), brief(b.S))
			}
		}
	}
}

// P7.1, R3: lists without elements are the same, nil or empty.
func TestSameOfNoElements(t *testing.T) {
	bare := api.Frame{S: api.Sent{L: list(), V: []int64{}, Lev: []uint64{}, Neg: []bool{}}}
	if !frame.Same(api.Frame{}, bare) || !frame.Same(bare, api.Frame{}) || !frame.Same(bare, bare) {
		t.Error("nil and empty lists are not the same")
	}
}
