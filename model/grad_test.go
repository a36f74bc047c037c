package model_test

import (
	"slices"
	"testing"

	"thrum/api"
	"thrum/model"
)

// bent is a model, its numbers, samples, how it is to be bent, and that by no more than most, as another program works them out.
type bent struct {
	m       api.Model
	w       []int64
	l       []api.Sample
	grad    []int64
	most    int64
	clipped []int64
}

func bents() []bent {
	plain, soft, two := list(2, 3, 1), list(16, 0, -16, 0, 0, 8), list(2, -5, -1, 1, 10, 100, 1)
	sixteen := list(-109, 272, 99, -468, 227, 337, -173, -214, 28, -379, 167, 105, -506, 180, -377, 122, 215)
	thin := list(455, 124, -220, -174, 467, 507, 165, -198, 359, -413, -372, -41, 35, -338, -384, -460, 170, 367, -372, 317, 484, -412, -260, -262, -64)
	return []bent{
		{line(2, 0), plain, batch(1, seen(320, 10, 100)), list(10, 100, 1), 10, list(10, 10, 1)},
		{line(2, 0), plain, batch(64, seen(322, 10, 100)), list(-10, -100, -1), 99, list(-10, -99, -1)},
		{line(1, 0), list(0, 13), batch(1, seen(-12, -26)), list(-650, 25), 650, list(-650, 25)},
		{line(2, 4), list(-18, 15, 28), batch(1, seen(3, -5, 20)), list(-15, 60, 48), 48, list(-15, 48, 48)},
		{line(4, 16), list(-35612, 73105, -47394, -93360, -58318), batch(1, seen(-35826, 20607, 33371, -26797, -23709)),
			list(17824, 28865, -23179, -20508, 56687), 23179, list(17824, 23179, -23179, -20508, 23179)},
		{line(16, 8), sixteen, []api.Sample{
			seen(-182, -326, -86, 185, 230, -209, 184, 52, -324, 127, 136, 115, -149, -352, -208, 121, 478),
			seen(-241, -413, -347, 319, -447, -26, 192, 0, 421, 351, -214, -398, -445, 498, 172, -88, -245),
		}, list(-622, -228, 374, 241, -335, 339, 81, -397, 292, 156, 74, -353, -421, -281, 166, 684, 469),
			335, list(-335, -228, 335, 241, -335, 335, 81, -335, 292, 156, 74, -335, -335, -281, 166, 335, 335)},
		{line(3, 30), list(1236991586, -1689508670, -281083328, -1506479761), []api.Sample{
			seen(1579684412, 1725977591, -1664040623, 1877521333), seen(-834516078, -1373872838, -34952348, 12131118),
		}, list(2236402788, -761544894, 887253779, -586917107), 887253779, list(887253779, -761544894, 887253779, -586917107)},
		{classes(1, 3, 4), soft, []api.Sample{seen(2, 0), seen(1, 16)}, list(4, 6, -7, -5, 2, -3), 4, list(4, 4, -4, -4, 2, -3)},
		{classes(1, 2, 4), list(3, 30, 1, 5), []api.Sample{seen(1, -31), seen(1, 0), seen(1, 3)},
			list(-7, 11, 6, -13), 11, list(-7, 11, 6, -11)},
		{classes(2, 3, 8), list(79, 512, 218, 200, 48, 195, 324, 204, -159), []api.Sample{
			seen(1, -172, -106), seen(2, 465, 67), seen(0, -351, 341),
		}, list(43, -23, 48, 76, 36, -4, -121, -16, -46), 43, list(43, -23, 43, 43, 36, -4, -43, -16, -43)},
		{classes(2, 2, 30), list(274272926, 1963713137, 2010031470, 466475939, -2143414246, -1683977891), []api.Sample{
			seen(1, -516338672, 1777030997), seen(0, -855545879, -1069153584), seen(1, 2079951800, -917412092),
		}, list(311572367, 635158852, 338155735, -311572369, -635158853, -338155736),
			338155736, list(311572367, 338155736, 338155735, -311572369, -338155736, -338155736)},
		{layers(1, 2, 0), two, batch(1, seen(9, 3)), list(60, 20, 0, 0, 2, 0, 2), 10, list(10, 10, 0, 0, 2, 0, 2)},
		{layers(1, 1, 0), list(-29, -17, 24, -1), batch(1, seen(-31, 18)), list(0, 0, 0, 30), 0, list(0, 0, 0, 0)},
		{layers(2, 3, 4), list(29, 3, -1, 28, -28, -1, 30, 2, -13, 4, 5, 31, 28), []api.Sample{seen(-29, 11, 5), seen(14, 27, 12)},
			list(28, 12, 22, 35, 15, 28, 223, 99, 176, 204, 103, 142, 91), 91, list(28, 12, 22, 35, 15, 28, 91, 91, 91, 91, 91, 91, 91)},
		{layers(3, 2, 16), list(-61615, -111973, -129586, 1270, 107800, -74659, -30839, -123439, 94199, 93182, 121571),
			batch(1, seen(19063, 28128, -129381, 95850)),
			list(90900, -418120, 309757, 211792, 89919, -413605, 306412, 209505, 14283, 56467, 147348),
			209505, list(90900, -209505, 209505, 209505, 89919, -209505, 209505, 209505, 14283, 56467, 147348)},
		{layers(1, 8, 8), thin, []api.Sample{seen(-206, 384), seen(-133, -138)},
			list(-390, -260, 0, 0, 632, 972, -726, -484, -1108, -739, -243, 449, 0, 0, 0, 0, -1230, 0, -2120, -75, -191, -174, 0, 0, -670),
			243, list(-243, -243, 0, 0, 243, 243, -243, -243, -243, -243, -243, 243, 0, 0, 0, 0, -243, 0, -243, -75, -191, -174, 0, 0, -243)},
		// At the edges: what is too great by one, and what is as far below 0 as can be.
		{line(1, 0), list(0, -1), batch(1, seen(top, 0)), list(0, low), top, list(0, -top)},
		{line(1, 0), list(0, 0), batch(1, seen(-top, 0)), list(0, top), top, list(0, top)},
		{line(1, 0), list(0, 0), batch(1, seen(-top, 0)), list(0, top), top - 1, list(0, top-1)},
		{line(1, 0), list(0, 0), batch(1, seen(-7, 1)), list(7, 7), 0, list(0, 0)},
		{line(1, 0), list(0, 0), batch(1, seen(-7, -1)), list(-7, 7), 1, list(-1, 1)},
	}
}

// P17.2: Grad.
func TestGrad(t *testing.T) {
	for _, x := range bents() {
		if got, e := model.Grad(x.m, x.w, x.l...); !slices.Equal(got, x.grad) || e != api.OK {
			t.Errorf("Grad(%v, %v, %v): got %v, %d, not %v", x.m, x.w, x.l, got, e, x.grad)
		}
	}
}

// P17.2: Clip, by what most is given, by the greatest there is, and by nothing.
func TestClip(t *testing.T) {
	for _, x := range bents() {
		if got, e := model.Clip(x.m, x.w, x.most, x.l...); !slices.Equal(got, x.clipped) || e != api.OK {
			t.Errorf("Clip(%v, %v, %d, %v): got %v, %d, not %v", x.m, x.w, x.most, x.l, got, e, x.clipped)
		}
		whole := slices.Clone(x.grad)
		for i, n := range whole {
			whole[i] = max(n, -top)
		}
		if got, e := model.Clip(x.m, x.w, top, x.l...); !slices.Equal(got, whole) || e != api.OK {
			t.Errorf("Clip(%v, %v, %v): got %v, %d, not %v", x.m, x.w, x.l, got, e, whole)
		}
		if got, e := model.Clip(x.m, x.w, 0, x.l...); !slices.Equal(got, many(len(x.w), 0)) || e != api.OK {
			t.Errorf("Clip(%v, %v, 0, %v): got %v, %d", x.m, x.w, x.l, got, e)
		}
	}
}

// P17.2: Clip tells of a number below 0.
func TestClipByLessThanNothing(t *testing.T) {
	for _, x := range bents() {
		for _, most := range list(-1, -2, -x.most-1, -top, low) {
			if got, e := model.Clip(x.m, x.w, most, x.l...); len(got) != 0 || e != api.ErrArg {
				t.Errorf("Clip(%v, %v, %d, %v): got %v, %d", x.m, x.w, most, x.l, got, e)
			}
		}
	}
}

// overs are models that go together with samples, and go over.
func overs() []misfit {
	two := list(1, 0, 1, 0, 1, -1, 0)
	return []misfit{
		{"a line, what it tells", line(1, 0), list(top, 0), batch(1, seen(0, 2)), api.ErrOver},
		{"a line, what it is off", line(1, 0), list(0, 1), batch(1, seen(-top, 5)), api.ErrOver},
		{"a line, what is seen so many times", line(1, 0), list(0, 2), batch(1, seen(0, top)), api.ErrOver},
		{"a line, the sum of samples", line(1, 0), list(0, 0), batch(2, seen(-top, 0)), api.ErrOver},
		{"a line, the last sample", line(1, 30), list(1<<30, 0), append(batch(63, seen(0, 1)), seen(low, 1)), api.ErrOver},
		{"classes, what a line tells", classes(1, 2, 0), list(0, 0, top, 0), batch(1, seen(0, 2)), api.ErrOver},
		{"classes too far apart", classes(1, 2, 0), list(0, low, 0, top), batch(1, seen(0, 1)), api.ErrOver},
		{"classes, what is seen so many times", classes(1, 2, 0), list(0, 9, 0, 0), batch(1, seen(1, low)), api.ErrOver},
		{"classes, the sum of samples", classes(1, 2, 0), list(0, 9, 0, 0), batch(2, seen(1, top)), api.ErrOver},
		{"layers, what is hidden", layers(1, 2, 0), list(0, 0, top, 0, 0, 0, 0), batch(1, seen(0, 2)), api.ErrOver},
		{"layers, what they tell", layers(1, 1, 0), list(1, 0, top, 0), batch(1, seen(0, 2)), api.ErrOver},
		{"layers, what they are off", layers(1, 1, 0), list(0, 0, 0, 1), batch(1, seen(-top, 5)), api.ErrOver},
		{"layers, what a hidden one is off", layers(1, 2, 0), append(two[:4:4], top, -top, 0), batch(1, seen(2, 1)), api.ErrOver},
		{"layers, what is hidden so many times", layers(1, 2, 0), two, batch(1, seen(3, top)), api.ErrOver},
		{"layers, the sum of samples", layers(1, 1, 0), list(0, 0, 0, 0), batch(2, seen(-top, 0)), api.ErrOver},
	}
}

// P17.2: errors of Grad and Clip, beside which there are no numbers, and which of them comes first: Clip tells of most last.
func TestGradAndClipErrors(t *testing.T) {
	for _, x := range append(misfits(), overs()...) {
		if got, e := model.Grad(x.m, x.w, x.l...); len(got) != 0 || e != x.want {
			t.Errorf("Grad, %s, %v, %d numbers, %d samples: got %v, %d, not %d", x.name, x.m, len(x.w), len(x.l), got, e, x.want)
		}
		for _, most := range list(0, 1, top, -1, low) {
			if got, e := model.Clip(x.m, x.w, most, x.l...); len(got) != 0 || e != x.want {
				t.Errorf("Clip by %d, %s, %v, %d numbers, %d samples: got %v, %d, not %d", most, x.name, x.m, len(x.w), len(x.l), got, e, x.want)
			}
		}
	}
}

// P17.2: numbers and samples that go over in Grad go together nonetheless.
func TestFitsOfWhatGoesOver(t *testing.T) {
	for _, x := range overs() {
		if e := model.Fits(x.m, x.w, x.l...); e != api.OK {
			t.Errorf("%s: got %d", x.name, e)
		}
	}
}
