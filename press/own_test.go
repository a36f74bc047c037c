package press_test

import (
	"slices"
	"sync"
	"testing"

	"thrum/api"
	"thrum/press"
)

// roomy is numbers with room behind them that is the caller's: a call might write into it.
func roomy() []int64 { return vector(3, -5, 0, 9, 88, -99, 111)[:4] }

// roomyList are numbers to draw for, with such room.
func roomyList() []int { return list(4, 9, 77, 66)[:2] }

// checkKept tells when those, or the room behind them, are not as they were.
func checkKept(t *testing.T, name string, l []int, vectors ...[]int64) {
	t.Helper()
	if got := l[:cap(l)]; !slices.Equal(got, list(4, 9, 77, 66)) {
		t.Errorf("%s: got %v", name, got)
	}
	for _, v := range vectors {
		if got := v[:cap(v)]; !slices.Equal(got, vector(3, -5, 0, 9, 88, -99, 111)) {
			t.Errorf("%s: got %v", name, got)
		}
	}
}

// cloned is a pressed vector with lists of its own, and room behind them.
func cloned(s api.Sent) api.Sent {
	s.L, s.V, s.Lev, s.Neg = behind(s.L), behind(s.V), behind(s.Lev), behind(s.Neg)
	return s
}

func behind[T any](l []T) []T {
	return append(make([]T, 0, len(l)+3), l...)
}

// spoilt writes into all lists of a pressed vector, and into the room behind them.
func spoilt(s api.Sent) {
	for i := range s.L[:cap(s.L)] {
		s.L[:cap(s.L)][i] = 1 << 20
	}
	for i := range s.V[:cap(s.V)] {
		s.V[:cap(s.V)][i] = -77
	}
	for i := range s.Lev[:cap(s.Lev)] {
		s.Lev[:cap(s.Lev)][i] = 1 << 20
	}
	for i, neg := range s.Neg[:cap(s.Neg)] {
		s.Neg[:cap(s.Neg)][i] = !neg
	}
}

// room is all that stands in a pressed vector's lists, and behind them.
func room(s api.Sent) api.Sent {
	s.L, s.V, s.Lev, s.Neg = s.L[:cap(s.L)], s.V[:cap(s.V)], s.Lev[:cap(s.Lev)], s.Neg[:cap(s.Neg)]
	return s
}

// R2: what is handed in stays as it is, and what stands behind it.
func TestWhatIsHandedInStays(t *testing.T) {
	for _, h := range append(ways(4), wrong()...) {
		v, g, n := roomy(), roomy(), roomyList()
		s, _ := press.Press(h, v, 7, n...)
		press.Round(h, v, g, 7, n...)
		press.Round(h, v, g[:2], 7, n...)
		checkKept(t, "Press", n, v, g)
		s = cloned(s)
		was := room(cloned(s))
		press.Loosen(s)
		press.Left(v, s)
		press.Left(v[:1], s)
		press.Meets(h, v, s)
		press.Meets(h, v[:3], s)
		press.Bytes(s)
		checkKept(t, "Meets", n, v, g)
		if !same(room(s), was) {
			t.Errorf("%v: got %v, not %v", h, room(s), was)
		}
	}
}

// R2: what is pressed is new, and shares nothing with what was handed in or told.
func TestWhatIsPressedIsNew(t *testing.T) {
	for _, h := range ways(4) {
		v, n := roomy(), roomyList()
		first, e := press.Press(h, v, 7, n...)
		again, _ := press.Press(h, v, 7, n...)
		want := cloned(again)
		if !same(first, want) || e != api.OK {
			t.Fatalf("%v: got %v, %d", h, first, e)
		}
		v[0], v[1], v[3], n[0] = -3, 50, -9, 5
		if !same(first, want) {
			t.Errorf("%v: what is written into an argument is in the answer", h)
		}
		v[0], v[1], v[3], n[0] = 3, -5, 9, 4
		spoilt(first)
		checkKept(t, "Press", n, v)
		if third, _ := press.Press(h, v, 7, n...); !same(again, want) || !same(third, want) {
			t.Errorf("%v: what is written into one answer is in another", h)
		}
	}
}

// R2: what is loosened, and what is left, is new.
func TestWhatIsLoosenedIsNew(t *testing.T) {
	for _, h := range ways(4) {
		v := roomy()
		s, _ := press.Press(h, v, 7)
		s = cloned(s)
		was := room(cloned(s))
		loose, _ := press.Loosen(s)
		left, _ := press.Left(v, s)
		again, _ := press.Loosen(s)
		rest, _ := press.Left(v, s)
		want, over := slices.Clone(again), slices.Clone(rest)
		for i := range loose[:cap(loose)] {
			loose[:cap(loose)][i] = 1000
		}
		for i := range left[:cap(left)] {
			left[:cap(left)][i] = 1000
		}
		checkKept(t, "Loosen", roomyList(), v)
		if !same(room(s), was) || !slices.Equal(again, want) || !slices.Equal(rest, over) {
			t.Errorf("%v: what is written into one answer is elsewhere, too", h)
		}
		spoilt(s)
		v[0], v[1], v[2], v[3] = 7, 7, 7, 7
		if !slices.Equal(again, want) || !slices.Equal(rest, over) {
			t.Errorf("%v: what is written into an argument is in the answer", h)
		}
	}
}

// R2: what a round answers is new, and what is pressed shares nothing with what is left.
func TestWhatARoundTellsIsNew(t *testing.T) {
	for _, h := range ways(4) {
		g, left, n := roomy(), roomy(), roomyList()
		s, rest, e := press.Round(h, g, left, 7, n...)
		again, over, _ := press.Round(h, g, left, 7, n...)
		want, wantLeft := cloned(again), slices.Clone(over)
		if !same(s, want) || !slices.Equal(rest, wantLeft) || e != api.OK {
			t.Fatalf("%v: got %v, %v, %d", h, s, rest, e)
		}
		spoilt(s)
		if !slices.Equal(rest, wantLeft) {
			t.Errorf("%v: what is written into what is pressed is left", h)
		}
		for i := range rest[:cap(rest)] {
			rest[:cap(rest)][i] = 1000
		}
		checkKept(t, "Round", n, g, left)
		g[0], left[1], n[1] = 100, -100, 3
		if !same(again, want) || !slices.Equal(over, wantLeft) {
			t.Errorf("%v: what is written elsewhere is in the answer", h)
		}
	}
}

// R5: however many call at once, with the same numbers, all get the same.
func TestSideBySide(t *testing.T) {
	for _, h := range ways(300) {
		g, left, n := many(300), many(600)[300:], list(4, 9)
		want, rest, _ := press.Round(h, g, left, 7, n...)
		is := make([]bool, 20)
		var all sync.WaitGroup
		for i := range is {
			all.Go(func() {
				s, over, e := press.Round(h, g, left, 7, n...)
				loose, f := press.Loosen(want)
				is[i] = e == api.OK && f == api.OK && same(s, want) && slices.Equal(over, rest) &&
					press.Meets(h, plus(loose, rest), s)
			})
		}
		all.Wait()
		if slices.Contains(is, false) || !slices.Equal(g, many(300)) || !slices.Equal(n, list(4, 9)) {
			t.Errorf("%v: got %v", h, is)
		}
	}
}
