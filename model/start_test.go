package model_test

import (
	"math"
	"slices"
	"testing"

	"thrum/api"
	"thrum/model"
)

// P17.3: Start, as another program draws it.
func TestStart(t *testing.T) {
	for _, x := range []struct {
		m    api.Model
		seed uint64
		want []int64
	}{
		{line(1, 0), 0, list(0, 1)},
		{line(1, 0), 1, list(1, 0)},
		{line(2, 1), 7, list(-1, 0, -1)},
		{line(3, 4), 7, list(7, -4, 0, 1)},
		{line(16, 8), 12345678901234567890, list(-55, -124, 5, 75, 39, -83, 9, 103, 85, -123, -69, -24, 107, 103, 31, 22, -80)},
		{classes(1, 2, 2), 7, list(-1, -1, -2, 2)},
		{classes(3, 2, 16), math.MaxUint64, list(5718, -21335, -4751, 22421, -1967, 23267, -3044, -10795)},
		{classes(2, 8, 30), 3, list(
			161512328, 488915966, -260363226, -536870912, -80192061, 300369204, -353731037, -131293778,
			38436129, 469696064, -294403893, 364044451, 39945966, -323267851, -193442992, -31430787,
			-168934295, 138612014, -162204100, -174435002, -259487040, 268981884, 98091907, 73513615,
		)},
		{layers(1, 1, 3), 7, list(-1, 0, -4, 2)},
		{layers(2, 3, 16), 9, list(18770, -29516, -14858, 20431, -13458, 20986, -17522, -30413, -8940, -32768, 11629, -12037, -6714)},
		{layers(1, 8, 30), 1 << 63, list(
			88423264, -363061605, -16548023, 125614099, 333803036, -441642814, 294205728, 391502103, 404464408,
			-209596330, -35523788, 84702136, -479955712, 306537940, 452754422, 67328395, -357463999, 420936369,
			90249353, -469542348, -166023942, 66437144, -372598488, -223426476, 478894181,
		)},
		{layers(3, 2, 0), 42, list(0, 1, 0, 1, 0, 1, 1, 1, 1, 1, 1)},
	} {
		if got, e := model.Start(x.m, x.seed); !slices.Equal(got, x.want) || e != api.OK {
			t.Errorf("Start(%v, %d): got %v, %d, not %v", x.m, x.seed, got, e, x.want)
		}
	}
}

// P17.3: Start's error, beside which there are no numbers.
func TestStartErrors(t *testing.T) {
	for name, m := range bad() {
		for _, seed := range []uint64{0, 1, 7, math.MaxUint64} {
			if got, e := model.Start(m, seed); len(got) != 0 || e != api.ErrArg {
				t.Errorf("%s, %d: got %v, %d", name, seed, got, e)
			}
		}
	}
}

// P17.3: a model begins with as many numbers as it has, none of which is above a half, or below that.
func TestStartIsWithinAHalf(t *testing.T) {
	for _, m := range good() {
		half := int64(1) << m.Frac / 2
		for seed := range uint64(5) {
			got, e := model.Start(m, seed*seed*1e15)
			if len(got) != numbers(m) || e != api.OK {
				t.Fatalf("%v, %d: got %v, %d", m, seed, got, e)
			}
			for _, n := range got {
				if n < -half || n > int64(1)<<m.Frac-half {
					t.Fatalf("%v, %d: got %v", m, seed, got)
				}
			}
		}
	}
}

// P17.3: all numbers from one end to the other come, the ends among them, of no bits behind the point 0 and 1.
func TestStartComesToAll(t *testing.T) {
	for frac, want := range [][]int64{list(0, 1), list(-1, 0, 1), list(-2, -1, 0, 1, 2), list(-4, -3, -2, -1, 0, 1, 2, 3, 4)} {
		var come []int64
		for seed := range uint64(40) {
			got, _ := model.Start(layers(2, 2, frac), seed)
			come = append(come, got...)
		}
		slices.Sort(come)
		if got := slices.Compact(come); !slices.Equal(got, want) {
			t.Errorf("%d bits: got %v, not %v", frac, got, want)
		}
	}
}

// P17.3: a beginning hangs on the seed, the place and the bits behind the point alone: of models of each kind it is the same, as far as they go.
func TestStartOfAllKinds(t *testing.T) {
	for _, frac := range []int{0, 7, 30} {
		for _, seed := range []uint64{0, 3, 1 << 40} {
			longest, e := model.Start(layers(16, 8, frac), seed)
			if len(longest) != 145 || e != api.OK {
				t.Fatalf("got %v, %d", longest, e)
			}
			for _, m := range []api.Model{line(1, frac), line(16, frac), classes(3, 2, frac), classes(16, 8, frac), layers(5, 3, frac)} {
				if got, e := model.Start(m, seed); !slices.Equal(got, longest[:numbers(m)]) || e != api.OK {
					t.Errorf("%v, %d: got %v, %d, not %v", m, seed, got, e, longest)
				}
			}
			if other, _ := model.Start(layers(16, 8, frac), seed+1); slices.Equal(other, longest) {
				t.Errorf("%d bits, seeds %d and one more: got %v", frac, seed, other)
			}
		}
	}
}
