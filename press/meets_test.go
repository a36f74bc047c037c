package press_test

import (
	"slices"
	"testing"

	"thrum/api"
	"thrum/frame"
	"thrum/press"
	"thrum/quant"
	"thrum/sign"
	"thrum/topk"
)

// P12.4: what is pressed, as another program works it out, meets its way, and no other one.
func TestMeets(t *testing.T) {
	for name, x := range examples() {
		if !press.Meets(x.h, x.v, x.s) {
			t.Errorf("%s: it does", name)
		}
		others := append(wrong(), ways(len(x.v))...)
		for _, h := range append(others, way(1, len(x.v)+1, 0), way(2, 0, 2), way(2, 0, 4)) {
			if h != x.h && press.Meets(h, x.v, x.s) {
				t.Errorf("%s: %v is another way", name, h)
			}
		}
	}
}

// P12.4: it meets its way of that vector alone.
func TestMeetsOfOthers(t *testing.T) {
	for name, x := range examples() {
		longer := append(slices.Clone(x.v), 0)
		for _, v := range [][]int64{nil, longer, x.v[1:], make([]int64, api.MaxDim+1)} {
			if press.Meets(x.h, v, x.s) {
				t.Errorf("%s: %d numbers do", name, len(v))
			}
		}
		// As great a number of another sign is at least another sign.
		for i, n := range x.v {
			if n == 0 || x.h.Scheme == api.TopS && !slices.Contains(x.s.L, i) {
				continue
			}
			v := slices.Clone(x.v)
			v[i] = max(-n, -most)
			if press.Meets(x.h, v, x.s) {
				t.Errorf("%s: another sign at %d does", name, i)
			}
		}
	}
}

// part is a part of a pressed vector that is another one.
type part struct {
	name  string
	write func(s *api.Sent)
}

// parts are such of any vector.
func parts() []part {
	return []part{
		{"another scheme", func(s *api.Sent) { s.Scheme = (s.Scheme + 1) % 4 }},
		{"no such scheme", func(s *api.Sent) { s.Scheme += 4 }},
		{"a dimension more", func(s *api.Sent) { s.Dim++ }},
		{"a dimension less", func(s *api.Sent) { s.Dim-- }},
		{"another scale", func(s *api.Sent) { s.Scale++ }},
		{"a scale less", func(s *api.Sent) { s.Scale-- }},
		{"a width more", func(s *api.Sent) { s.Wide++ }},
		{"a width less", func(s *api.Sent) { s.Wide-- }},
		{"a place more", func(s *api.Sent) { s.L = append(slices.Clone(s.L), s.Dim-1) }},
		{"a number more", func(s *api.Sent) { s.V = append(slices.Clone(s.V), 0) }},
		{"a place and a number more", func(s *api.Sent) {
			s.L, s.V = append(slices.Clone(s.L), s.Dim-1), append(slices.Clone(s.V), 0)
		}},
		{"a level more", func(s *api.Sent) { s.Lev = append(slices.Clone(s.Lev), 0) }},
		{"a sign more", func(s *api.Sent) { s.Neg = append(slices.Clone(s.Neg), false) }},
		{"no places", func(s *api.Sent) { s.L = list(0) }},
		{"nothing", func(s *api.Sent) { *s = api.Sent{} }},
		{"nothing but its scheme", func(s *api.Sent) { *s = api.Sent{Scheme: s.Scheme} }},
		{"another first number", func(s *api.Sent) {
			if s.V = slices.Clone(s.V); len(s.V) > 0 {
				s.V[0]++
			}
		}},
		{"another last number", func(s *api.Sent) {
			if s.V = slices.Clone(s.V); len(s.V) > 0 {
				s.V[len(s.V)-1]--
			}
		}},
		{"another first sign", func(s *api.Sent) {
			if s.Neg = slices.Clone(s.Neg); len(s.Neg) > 0 {
				s.Neg[0] = !s.Neg[0]
			}
		}},
		{"a level far off", func(s *api.Sent) {
			if s.Lev = slices.Clone(s.Lev); len(s.Lev) > 0 {
				s.Lev[0] = (s.Lev[0] + 2) % 256
			}
		}},
	}
}

// P12.4: with any one part changed it does not meet its way.
func TestMeetsInEachPart(t *testing.T) {
	for name, x := range examples() {
		for _, p := range parts() {
			s := x.s
			p.write(&s)
			if !same(s, x.s) && press.Meets(x.h, x.v, s) {
				t.Errorf("%s: %s: %v does", name, p.name, s)
			}
		}
	}
}

// P12.4: levels may be up, whether chance has it or not; others may not.
func TestMeetsWhateverChance(t *testing.T) {
	h, v := way(2, 0, 2), vector(10, -7, 0, 3, 6)
	for code := range 4 * 4 * 4 * 4 * 4 {
		lev := []uint64{uint64(code % 4), uint64(code / 4 % 4), uint64(code / 16 % 4), uint64(code / 64 % 4), uint64(code / 256)}
		want := lev[0] == 3 && lev[1] >= 2 && lev[2] == 0 && lev[3] <= 1 && (lev[4] == 1 || lev[4] == 2)
		if got := press.Meets(h, v, levels(10, 2, "+-+++", lev...)); got != want {
			t.Errorf("%v: got %t", lev, got)
		}
	}
}

// P12.4: what may not be, or is pressed from what goes over, meets nothing.
func TestMeetsOfErrors(t *testing.T) {
	for name, x := range faults() {
		for _, s := range []api.Sent{{}, dense(x.v...), places(len(x.v), list()), levels(most, 1, "-", 1), signs(most, "-"), {Scheme: x.h.Scheme, Dim: len(x.v)}} {
			if press.Meets(x.h, x.v, s) {
				t.Errorf("%s: %d, of scheme %d", name, s.Dim, s.Scheme)
			}
		}
	}
	for name, s := range none() {
		for _, v := range [][]int64{nil, vector(0), vector(1), vector(1, 2), make([]int64, max(0, min(s.Dim, api.MaxDim+1)))} {
			for _, h := range append(ways(len(v)), way(s.Scheme, len(s.L), s.Wide)) {
				if press.Meets(h, v, s) {
					t.Errorf("%s: %d numbers, by %v", name, len(v), h)
				}
			}
		}
	}
}

// P12.4: a list without elements is nil or empty, as it comes.
func TestMeetsOfLists(t *testing.T) {
	for name, x := range examples() {
		s := x.s
		s.L, s.V, s.Lev, s.Neg = filled(s.L), filled(s.V), filled(s.Lev), filled(s.Neg)
		if !press.Meets(x.h, x.v, s) {
			t.Errorf("%s: it does", name)
		}
	}
}

// filled is a list that is not nil.
func filled[T any](l []T) []T {
	return append([]T{}, l...)
}

// meetsByWords is Meets, as the chapter's words tell it.
func meetsByWords(h api.How, v []int64, s api.Sent) bool {
	if !mayByWords(h, len(v)) || !frame.May(s) || s.Scheme != h.Scheme {
		return false
	}
	return []bool{
		slices.Equal(s.V, v),
		topk.Is(h.K, v, s),
		s.Wide == h.Wide && quant.Near(v, s),
		sign.Is(v, s),
	}[h.Scheme]
}

// P12.4: of two numbers of a few, in ways that may be or may not, vectors of a few parts meet them just if the words say so.
func TestMeetsIsAsTheWordsTell(t *testing.T) {
	c := chance(17)
	are := [4]int{}
	for range 200000 {
		v := []int64{int64(c.next()%5) - 2, int64(c.next()%5) - 2}[:c.next()%2+1]
		h := way(int(c.next()%5), int(c.next()%4)-1, int(c.next()%4)-1)
		s, e := press.Press(h, v, c.next())
		if e != api.OK || c.next()%2 == 0 {
			s = c.changed()
		}
		if c.next()%3 == 0 {
			h = way(int(c.next()%4), int(c.next()%3), int(c.next()%3))
		}
		want := meetsByWords(h, v, s)
		if got := press.Meets(h, v, s); got != want {
			t.Fatalf("Meets(%v, %v, %v): got %t", h, v, s, got)
		}
		if want {
			are[h.Scheme]++
		}
	}
	if slices.Min(are[:]) < 500 {
		t.Errorf("%v do", are)
	}
}
