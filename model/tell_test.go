package model_test

import (
	"slices"
	"testing"

	"thrum/api"
	"thrum/model"
)

// told is a model, its numbers, what it sees, and what it tells, as another program works it out.
type told struct {
	m          api.Model
	w, x, want []int64
}

func tolds() []told {
	plain, soft, bent := list(2, 3, 1), list(16, 0, -16, 0, 0, 8), list(2, -5, -1, 1, 10, 100, 1)
	four := list(-35612, 73105, -47394, -93360, -58318)
	sixteen := list(-109, 272, 99, -468, 227, 337, -173, -214, 28, -379, 167, 105, -506, 180, -377, 122, 215)
	wide := list(1236991586, -1689508670, -281083328, -1506479761)
	three := list(79, 512, 218, 200, 48, 195, 324, 204, -159)
	eight := list(3293, 5091, 934, 5244, -4422, 4059, -7011, 1683, -5085, 1483, 2928, 1415, 3329, -3960, 5541, 5218)
	fine := list(274272926, 1963713137, 2010031470, 466475939, -2143414246, -1683977891)
	hidden := list(29, 3, -1, 28, -28, -1, 30, 2, -13, 4, 5, 31, 28)
	thin := list(455, 124, -220, -174, 467, 507, 165, -198, 359, -413, -372, -41, 35, -338, -384, -460, 170, 367, -372, 317, 484, -412, -260, -262, -64)
	deep := list(-1455221270, 525725684, -1838229082, 323220827, 1040832164, -1570528330, -293472951, 430431441, -44754563)
	return []told{
		{line(2, 0), plain, list(10, 100), list(321)},
		{line(1, 0), list(0, 13), list(-29), list(13)},
		{line(2, 4), list(-18, 15, 28), list(-1, 16), list(44)},
		{line(2, 4), list(-18, 15, 28), list(-19, -1), list(48)},
		{line(4, 16), four, list(102150, -64646, -61740, -130142), list(44104)},
		{line(4, 16), four, list(-128287, -21257, -18098, -44116), list(63612)},
		{line(16, 8), sixteen, list(114, 472, 134, -134, 473, 455, -152, -396, 12, -466, 220, 315, -475, 345, 237, 258), list(4326)},
		{line(3, 30), wide, list(1480620826, -881271747, 1512913725), list(1189863876)},
		{line(3, 30), wide, list(985716567, -90011988, -897551034), list(5695445)},
		{line(1, 0), list(1, 0), list(top), list(top)},
		{line(1, 0), list(1, 0), list(low), list(low)},
		{classes(1, 2, 4), many(4, 0), list(99), list(8, 8)},
		{classes(1, 3, 4), soft, list(0), list(4, 4, 6)},
		{classes(1, 3, 4), soft, list(16), list(8, 2, 5)},
		{classes(1, 3, 4), soft, list(-160), list(0, 16, 0)},
		{classes(1, 2, 4), list(3, 30, 1, 5), list(11), list(12, 3)},
		{classes(2, 3, 8), three, list(409, 234), list(126, 65, 63)},
		{classes(2, 3, 8), three, list(172, -222), list(46, 156, 52)},
		{classes(1, 8, 12), eight, list(3913), list(956, 647, 228, 100, 130, 478, 200, 1353)},
		{classes(1, 8, 12), eight, list(7126), list(959, 479, 81, 25, 43, 459, 210, 1837)},
		{classes(2, 2, 30), fine, list(-1543179674, -533227461), list(827673130, 246068693)},
		{classes(2, 2, 30), fine, list(-1175378523, -895523946), list(617656322, 456085501)},
		{layers(1, 2, 0), bent, list(3), list(11)},
		{layers(1, 1, 0), list(2, -5, 10, 1), list(3), list(11)},
		{layers(1, 1, 0), list(2, -5, 10, 1), list(2), list(1)},
		{layers(1, 1, 0), list(-29, -17, 24, -1), list(-27), list(18383)},
		{layers(2, 3, 4), hidden, list(-17, -30), list(34)},
		{layers(2, 3, 4), hidden, list(-16, 6), list(28)},
		{layers(1, 8, 8), thin, list(-285), list(-565)},
		{layers(1, 8, 8), thin, list(-237), list(-619)},
		{layers(2, 2, 30), deep, list(-1908033955, 847381073), list(-362510462)},
		{layers(2, 2, 30), deep, list(25100248, 519166328), list(-44754563)},
	}
}

// P17.2: Tell: one number of a line and of layers, of classes one of each.
func TestTell(t *testing.T) {
	for _, x := range tolds() {
		if got, e := model.Tell(x.m, x.w, x.x); !slices.Equal(got, x.want) || e != api.OK {
			t.Errorf("Tell(%v, %v, %v): got %v, %d, not %v", x.m, x.w, x.x, got, e, x.want)
		}
	}
}

// P17.2: the same numbers tell other things, as a model is of another kind, or has other bits behind the point.
func TestTellOfTheSameNumbers(t *testing.T) {
	w := list(3, -2, 5, 4)
	for _, x := range []struct {
		m       api.Model
		x, want []int64
	}{
		{line(3, 0), list(1, 2, 3), list(18)},
		{line(3, 1), list(1, 2, 3), list(10)},
		{line(3, 30), list(1, 2, 3), list(3)},
		{classes(1, 2, 0), list(1), list(0, 1)},
		{classes(1, 2, 0), list(-5), list(1, 0)},
		{classes(1, 2, 3), list(-5), list(3, 4)},
		{layers(1, 1, 0), list(1), list(9)},
		{layers(1, 1, 0), list(-1), list(4)},
		{layers(1, 1, 1), list(4), list(14)},
	} {
		if got, e := model.Tell(x.m, w, x.x); !slices.Equal(got, x.want) || e != api.OK {
			t.Errorf("Tell(%v, %v, %v): got %v, %d, not %v", x.m, w, x.x, got, e, x.want)
		}
	}
}

// untold is a model, numbers, and what is seen, of which nothing is told.
type untold struct {
	name string
	m    api.Model
	w, x []int64
	want api.Errno
}

// unseen are models that tell nothing as what is seen, or their numbers, are too few, or too many.
func unseen() []untold {
	return []untold{
		// The layers tell of what is seen each in its own way.
		{"a line, none to be seen", line(2, 0), many(3, 1), nil, api.ErrArg},
		{"a line, fewer to be seen", line(2, 0), many(3, 1), list(1), api.ErrShape},
		{"a line, more to be seen", line(2, 0), many(3, 1), list(1, 2, 3), api.ErrShape},
		{"a line, sixteen to be seen", line(2, 0), many(3, 1), many(16, 1), api.ErrShape},
		{"a line, seventeen to be seen", line(2, 0), many(3, 1), many(17, 1), api.ErrArg},
		{"a line of sixteen, seventeen to be seen", line(16, 0), many(17, 1), many(17, 1), api.ErrArg},
		{"a line, far more to be seen", line(2, 0), many(3, 1), many(api.MaxDim+1, 1), api.ErrArg},
		{"classes, none to be seen", classes(2, 3, 0), many(9, 1), nil, api.ErrShape},
		{"classes, fewer to be seen", classes(2, 3, 0), many(9, 1), list(1), api.ErrShape},
		{"classes, more to be seen", classes(2, 3, 0), many(9, 1), list(1, 2, 3), api.ErrShape},
		{"classes, seventeen to be seen", classes(2, 3, 0), many(9, 1), many(17, 1), api.ErrShape},
		{"layers, none to be seen", layers(2, 3, 0), many(13, 1), nil, api.ErrShape},
		{"layers, fewer to be seen", layers(2, 3, 0), many(13, 1), list(1), api.ErrShape},
		{"layers, more to be seen", layers(2, 3, 0), many(13, 1), list(1, 2, 3), api.ErrShape},
		{"layers, seventeen to be seen", layers(2, 3, 0), many(13, 1), many(17, 1), api.ErrShape},
		// How many numbers there are is told ahead of that.
		{"a line, a number too few, none to be seen", line(2, 0), many(2, 1), nil, api.ErrShape},
		{"a line, a number too many, seventeen to be seen", line(2, 0), many(4, 1), many(17, 1), api.ErrShape},
		{"a line, no numbers, seventeen to be seen", line(2, 0), nil, many(17, 1), api.ErrShape},
		// A layer alone would tell something of these, as if they were another model's.
		{"a line that sees fewer", line(2, 0), list(1, 2), list(1), api.ErrShape},
		{"a line that sees more", line(2, 0), list(1, 2, 3, 4), list(1, 2, 3), api.ErrShape},
		{"classes that see fewer", classes(2, 3, 0), many(6, 1), list(1), api.ErrShape},
		{"classes that see more", classes(2, 3, 0), many(12, 1), list(1, 2, 3), api.ErrShape},
		{"layers that see fewer", layers(2, 3, 0), many(10, 1), list(1), api.ErrShape},
		{"layers that see more", layers(2, 3, 0), many(16, 1), list(1, 2, 3), api.ErrShape},
		{"as many numbers as a line, of classes", classes(3, 2, 0), many(4, 1), list(1, 2, 3), api.ErrShape},
		{"as many numbers as classes, of a line", line(3, 0), many(8, 1), list(1, 2, 3), api.ErrShape},
		{"as many numbers as a line, of layers", layers(3, 1, 0), many(4, 1), list(1, 2, 3), api.ErrShape},
	}
}

// tellsOver are models that go over.
func tellsOver() []untold {
	return []untold{
		{"a line over, its product", line(1, 0), list(top, 0), list(2), api.ErrOver},
		{"a line over, its sum", line(2, 0), list(1, 1, 0), list(top, 1), api.ErrOver},
		{"a line over, its base", line(1, 0), list(1, 1), list(top), api.ErrOver},
		{"a line over below", line(1, 30), list(1, low), list(-1), api.ErrOver},
		{"the first class over", classes(1, 2, 0), list(top, 0, 0, 0), list(2), api.ErrOver},
		{"the last class over", classes(1, 3, 0), list(0, 0, 0, 0, 1, 1), list(top), api.ErrOver},
		{"classes too far apart", classes(1, 2, 0), list(0, low, 0, top), list(1), api.ErrOver},
		{"classes apart by the least number", classes(1, 2, 0), list(0, low, 0, 0), list(1), api.ErrOver},
		{"a hidden one over", layers(1, 2, 0), list(0, 0, top, 0, 0, 0, 0), list(2), api.ErrOver},
		{"the last layer over", layers(1, 1, 0), list(1, 0, top, 0), list(2), api.ErrOver},
		{"the last layer's base over", layers(1, 1, 0), list(1, 0, 1, 1), list(top), api.ErrOver},
		{"over, a number too many", line(1, 0), many(3, top), list(top), api.ErrShape},
		{"over, more to be seen", line(1, 0), many(2, top), many(2, top), api.ErrShape},
	}
}

// untolds are these, those that go wrong alike of all kinds, and models that may not be.
func untolds() []untold {
	l := append(unseen(), tellsOver()...)
	for _, m := range []api.Model{line(2, 4), classes(2, 3, 4), layers(2, 3, 4)} {
		n := numbers(m)
		l = append(l,
			untold{"no numbers", m, nil, list(1, 2), api.ErrShape},
			untold{"a number too few", m, many(n-1, 1), list(1, 2), api.ErrShape},
			untold{"a number too many", m, many(n+1, 1), list(1, 2), api.ErrShape},
			untold{"twice as many", m, many(2*n, 1), list(1, 2), api.ErrShape},
			untold{"more than a vector has", m, many(api.MaxDim+1, 1), list(1, 2), api.ErrShape},
			untold{"no numbers, none to be seen", m, nil, nil, api.ErrShape},
			untold{"over, a number too few", m, many(n-1, top), list(top, top), api.ErrShape},
			untold{"over, all numbers", m, many(n, top), list(top, top), api.ErrOver},
		)
	}
	for _, x := range ahead() {
		for _, s := range x.l {
			l = append(l, untold{x.name, x.m, x.w, s.X, api.ErrArg})
		}
	}
	return l
}

// P17.2: Tell's errors, beside which nothing is told, and which of them comes first.
func TestTellErrors(t *testing.T) {
	for _, x := range untolds() {
		if got, e := model.Tell(x.m, x.w, x.x); len(got) != 0 || e != x.want {
			t.Errorf("%s, %v, %d numbers, %d to be seen: got %v, %d, not %d", x.name, x.m, len(x.w), len(x.x), got, e, x.want)
		}
	}
}
