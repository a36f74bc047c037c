package sign_test

import (
	"slices"
	"testing"

	"thrum/api"
	"thrum/sign"
)

// lists are as they are written.
func lists(l ...[]bool) [][]bool { return l }

// said are signs, as they are written: 1 of yes.
func said(text string) []bool {
	l := make([]bool, len(text))
	for i := range text {
		l[i] = text[i] == '1'
	}
	return l
}

// P11.3: Votes: place by place whether more than half say so; half is not more.
func TestVotes(t *testing.T) {
	for name, x := range map[string]struct {
		l    [][]bool
		want []bool
	}{
		"nil":                   {nil, nil},
		"of none":               {lists(), nil},
		"one, of nothing":       {lists(signs()), nil},
		"three, of nothing":     {lists(nil, signs(), nil), nil},
		"one alone":             {lists(said("1001")), said("1001")},
		"two":                   {lists(said("1100"), said("1010")), said("1000")},
		"three":                 {lists(said("1100"), said("1010"), said("1000")), said("1000")},
		"each way of three":     {lists(said("00001111"), said("00110011"), said("01010101")), said("00010111")},
		"four, from 0 to 4":     {lists(said("01111"), said("00111"), said("00011"), said("00001")), said("00011")},
		"five, from 0 to 5":     {lists(said("011111"), said("001111"), said("000111"), said("000011"), said("000001")), said("000111")},
		"the same one, thrice":  {lists(said("10"), said("10"), said("10")), said("10")},
		"one against two":       {lists(said("11"), said("00"), said("00")), said("00")},
		"one sign of each":      {lists(said("1"), said("0"), said("1")), said("1")},
		"three against three":   {lists(said("1"), said("0"), said("1"), said("0"), said("1"), said("0")), said("0")},
		"four against three":    {lists(said("1"), said("0"), said("1"), said("0"), said("1"), said("0"), said("1")), said("1")},
		"the last one turns it": {lists(said("10"), said("01"), said("01")), said("01")},
	} {
		if got, e := sign.Votes(x.l...); !slices.Equal(got, x.want) || e != api.OK {
			t.Errorf("%s: got %v, %d, not %v", name, got, e, x.want)
		}
	}
}

// P11.3: Votes of the longest ones, and of more than there are workers.
func TestVotesOfMany(t *testing.T) {
	all := make([][]bool, 1001)
	for i := range all {
		all[i] = make([]bool, api.MaxDim)
		for k := range all[i] {
			// At place k as many as k say so, or all.
			all[i][k] = i < k
		}
	}
	got, e := sign.Votes(all...)
	if len(got) != api.MaxDim || e != api.OK {
		t.Fatalf("got %d signs, %d", len(got), e)
	}
	for k, yes := range got {
		if yes != (k > 500) {
			t.Errorf("%d: got %t", k, yes)
		}
	}
}

// unlike are lists of which one is too long, or which are not as long as one another.
func unlike() map[string]struct {
	l [][]bool
	e api.Errno
} {
	type x = struct {
		l [][]bool
		e api.Errno
	}
	long, longest := make([]bool, api.MaxDim+1), make([]bool, api.MaxDim)
	return map[string]x{
		"the first is too long":        {lists(long, said("10")), api.ErrLong},
		"the last is too long":         {lists(said("10"), long), api.ErrLong},
		"both are too long":            {lists(long, long), api.ErrLong},
		"one is far too long":          {lists(nil, make([]bool, 3*api.MaxDim)), api.ErrLong},
		"the longest, and one more":    {lists(longest, long), api.ErrLong},
		"one more":                     {lists(said("10"), said("101")), api.ErrShape},
		"one less":                     {lists(said("10"), said("1")), api.ErrShape},
		"nothing behind one":           {lists(said("1"), nil), api.ErrShape},
		"one behind nothing":           {lists(signs(), said("1")), api.ErrShape},
		"the longest, and one less":    {lists(longest, longest[1:]), api.ErrShape},
		"the longest, and nothing":     {lists(longest, nil), api.ErrShape},
		"the longest, behind one less": {lists(longest[1:], longest), api.ErrShape},
	}
}

// P11.3: Votes' and Turns' errors, beside which all is zero.
func TestUnlikeOnes(t *testing.T) {
	for name, x := range unlike() {
		if got, e := sign.Votes(x.l...); len(got) != 0 || e != x.e {
			t.Errorf("%s: Votes: got %v, %d, not %d", name, got, e, x.e)
		}
		if got, e := sign.Turns(x.l[0], x.l[1]); got != 0 || e != x.e {
			t.Errorf("%s: Turns: got %d, %d, not %d", name, got, e, x.e)
		}
	}
}

// P11.3: Votes' errors of one, and of three; that one is too long comes ahead of lengths.
func TestVotesErrors(t *testing.T) {
	long := make([]bool, api.MaxDim+1)
	for name, x := range map[string]struct {
		l [][]bool
		e api.Errno
	}{
		"one alone is too long":         {lists(long), api.ErrLong},
		"all are too long":              {lists(long, long, long), api.ErrLong},
		"the last is too long":          {lists(said("10"), said("01"), long), api.ErrLong},
		"too long behind other lengths": {lists(said("10"), said("0"), long), api.ErrLong},
		"too long ahead of them":        {lists(long, said("10"), said("0")), api.ErrLong},
		"the first is longer":           {lists(said("101"), said("01"), said("11")), api.ErrShape},
		"the second is shorter":         {lists(said("101"), said("01"), said("110")), api.ErrShape},
		"the last is longer":            {lists(said("10"), said("01"), said("110")), api.ErrShape},
		"the last is nothing":           {lists(said("10"), said("01"), nil), api.ErrShape},
	} {
		if got, e := sign.Votes(x.l...); len(got) != 0 || e != x.e {
			t.Errorf("%s: got %v, %d, not %d", name, got, e, x.e)
		}
	}
}

// P11.3: Turns: at how many places two differ.
func TestTurns(t *testing.T) {
	for name, x := range map[string]struct {
		a, b []bool
		want int
	}{
		"nil":                   {nil, nil, 0},
		"nothing":               {signs(), nil, 0},
		"one, the same":         {said("1"), said("1"), 0},
		"one below 0, the same": {said("0"), said("0"), 0},
		"one, another":          {said("1"), said("0"), 1},
		"one, the other way":    {said("0"), said("1"), 1},
		"four":                  {said("1100"), said("1010"), 2},
		"at the ends":           {said("10010"), said("00011"), 2},
		"all":                   {said("10110"), said("01001"), 5},
		"none":                  {said("10110"), said("10110"), 0},
		"each of the longest":   {make([]bool, api.MaxDim), slices.Repeat(said("1"), api.MaxDim), api.MaxDim},
		"half of the longest":   {make([]bool, api.MaxDim), slices.Repeat(said("10"), api.MaxDim/2), api.MaxDim / 2},
	} {
		if got, e := sign.Turns(x.a, x.b); got != x.want || e != api.OK {
			t.Errorf("%s: got %d, %d, not %d", name, got, e, x.want)
		}
	}
}
