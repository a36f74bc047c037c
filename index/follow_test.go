package index_test

import (
	"bytes"
	"math/big"
	"slices"
	"testing"

	"thrum/api"
	"thrum/index"
)

// subsets are all places of a small dimension.
func subsets(dim int) [][]int {
	var all [][]int
	for set := range 1 << dim {
		var l []int
		for at := range dim {
			if set>>at&1 == 1 {
				l = append(l, at)
			}
		}
		all = append(all, l)
	}
	return all
}

// mixed are places of a dimension that look like chance, about one of so many; others for another seed.
func mixed(dim, every int, seed uint64) []int {
	var l []int
	for at := range dim {
		seed = seed*6364136223846793005 + 1442695040888963407
		if seed>>33%uint64(every) == 0 {
			l = append(l, at)
		}
	}
	return l
}

// each calls with many lists of many dimensions.
func each(call func(dim int, l []int)) {
	for dim := 1; dim <= 10; dim++ {
		for _, l := range subsets(dim) {
			call(dim, l)
		}
	}
	for _, dim := range []int{11, 127, 128, 129, 300, 1000, 4095, 4096} {
		for _, every := range []int{1, 2, 3, 10, 100, 150, 500, 2000} {
			call(dim, mixed(dim, every, uint64(dim+every)))
		}
	}
}

// septets are a number's code as the words tell it: seven bits in each byte, the lowest first.
func septets(n int) []byte {
	var b []byte
	left := big.NewInt(int64(n))
	for {
		low := new(big.Int)
		left.DivMod(left, big.NewInt(128), low)
		if left.Sign() == 0 {
			return append(b, byte(low.Int64()))
		}
		b = append(b, byte(low.Int64())+128)
	}
}

// P6.1: whatever list of small numbers is Check's, it is one of all that may be, or it is told.
func TestCheckOfAllLists(t *testing.T) {
	may := subsets(3)
	var walk func(l []int)
	walk = func(l []int) {
		want := api.ErrArg
		if slices.ContainsFunc(may, func(x []int) bool { return slices.Equal(x, l) }) {
			want = api.OK
		}
		if e := index.Check(3, l...); e != want {
			t.Errorf("Check(3, %v): got %d, not %d", l, e, want)
		}
		if _, e := index.Put(3, l...); e != want {
			t.Errorf("Put(3, %v): got %d, not %d", l, e, want)
		}
		if _, e := index.Left(3, l...); e != want {
			t.Errorf("Left(3, %v): got %d, not %d", l, e, want)
		}
		if _, e := index.Spread(3, l, make([]int64, len(l))); e != want {
			t.Errorf("Spread(3, %v): got %d, not %d", l, e, want)
		}
		if _, e := index.Gather(l, make([]int64, 3)); e != want {
			t.Errorf("Gather(%v): got %d, not %d", l, e, want)
		}
		if len(l) == 5 {
			return
		}
		for n := -1; n <= 4; n++ {
			walk(append(slices.Clone(l), n))
		}
	}
	walk(nil)
}

// P6.1: a number stands where as many stand ahead as are less.
func TestHasCountsThoseAhead(t *testing.T) {
	each(func(dim int, l []int) {
		for n := -2; n <= dim+2; n++ {
			// Of long lists, some numbers do.
			if dim > 1000 && n%37 != 0 {
				continue
			}
			want, is := 0, false
			for _, x := range l {
				if x < n {
					want++
				}
				is = is || x == n
			}
			if at, has := index.Has(l, n); at != want || has != is {
				t.Errorf("Has(%v, %d): got %d, %v, not %d, %v", good(l...).brief(), n, at, has, want, is)
			}
		}
	})
}

// P6.1: what is merged is the same however the lists are turned, cut and doubled.
func TestMergeIsOfWhateverLists(t *testing.T) {
	each(func(dim int, l []int) {
		turned := slices.Clone(l)
		slices.Reverse(turned)
		half := len(l) / 2
		for i, lists := range [][][]int{{l}, {turned}, {l, l}, {l[half:], l[:half]}, {turned[half:], l, nil, turned}, {append(slices.Clone(turned), l...)}} {
			if got := index.Merge(lists...); !slices.Equal(got, l) {
				t.Errorf("%d: Merge of %v: got %v", i, good(l...).brief(), good(got...).brief())
			}
		}
	})
}

// P6.2: a code is how many there are, and how many are left out ahead of each.
func TestCodeIsAsTheWordsTell(t *testing.T) {
	each(func(dim int, l []int) {
		want := septets(len(l))
		for i, at := range l {
			ahead := -1
			if i > 0 {
				ahead = l[i-1]
			}
			want = append(want, septets(at-ahead-1)...)
		}
		if got := of(index.Put(dim, l...)); !got.is(good(want...)) {
			t.Errorf("Put(%d, %v): got %v, not %v", dim, good(l...).brief(), got.brief(), good(want...).brief())
		}
	})
}

// P6.2: a code of which the end is missing is too short.
func TestCodeWithoutItsEndIsShort(t *testing.T) {
	each(func(dim int, l []int) {
		b, _ := index.Put(dim, l...)
		for n := range b {
			// Of long codes, some ends do.
			if n > 300 && n%101 != 0 && n != len(b)-1 {
				continue
			}
			if got := placed(index.Get(dim, b[:n], 0)); !got.is(bad[int](api.ErrShort)) {
				t.Errorf("Get(%d) of %d bytes of %v: got %v", dim, n, good(b...).brief(), got.brief())
			}
		}
	})
}

// P6.2: of all texts of a few bytes, those that begin with the code of places are read, and no others.
func TestOnlyCodesAreRead(t *testing.T) {
	some := text(0, 1, 2, 3, 4, 5, 127, 128, 129, 255)
	for dim := 1; dim <= 5; dim++ {
		var all []coded
		for _, l := range subsets(dim) {
			b, _ := index.Put(dim, l...)
			all = append(all, coded{dim: dim, l: l, b: b})
		}
		var walk func(b []byte)
		walk = func(b []byte) {
			want := answer[int]{}
			at := slices.IndexFunc(all, func(x coded) bool { return bytes.HasPrefix(b, x.b) })
			if at >= 0 {
				want = goodAt(len(all[at].b), all[at].l...)
			}
			got := placed(index.Get(dim, b, 0))
			wrong := got.e == api.ErrShort || got.e == api.ErrForm
			if at < 0 && !(wrong && len(got.l) == 0 && got.at == 0) || at >= 0 && !got.is(want) {
				t.Errorf("Get(%d, %v): got %v, not %v", dim, b, got, want)
			}
			if len(b) == 4 {
				return
			}
			for _, x := range some {
				walk(append(slices.Clone(b), x))
			}
		}
		walk(nil)
	}
}

// P6.4: what was put is got.
func TestWhatWasPutIsGot(t *testing.T) {
	each(func(dim int, l []int) {
		b, e := index.Put(dim, l...)
		if got := placed(index.Get(dim, b, 0)); e != api.OK || !got.is(goodAt(len(b), l...)) {
			t.Errorf("of %d, %v: got %d, %v", dim, good(l...).brief(), e, got.brief())
		}
	})
}

// P6.4: of a dimension just as great as the last place asks for, what was put is got; of one less, it is none.
func TestTheDimensionIsTheBound(t *testing.T) {
	each(func(dim int, l []int) {
		b, e := index.Put(dim, l...)
		if e != api.OK || len(l) == 0 {
			return
		}
		least := l[len(l)-1] + 1
		if got := placed(index.Get(least, b, 0)); !got.is(goodAt(len(b), l...)) {
			t.Errorf("of %d, %v: got %v", least, good(l...).brief(), got.brief())
		}
		want := api.ErrForm
		if least == 1 {
			want = api.ErrArg
		}
		if got := placed(index.Get(least-1, b, 0)); !got.is(bad[int](want)) {
			t.Errorf("of %d, %v: got %v", least-1, good(l...).brief(), got.brief())
		}
	})
}

// P6.3, P6.4: what was spread is gathered, and elsewhere is 0.
func TestWhatWasSpreadIsGathered(t *testing.T) {
	each(func(dim int, l []int) {
		v := make([]int64, len(l))
		for i := range v {
			v[i] = int64(i+1) * -7
		}
		wide, e := index.Spread(dim, l, v)
		if e != api.OK || len(wide) != dim {
			t.Fatalf("Spread(%d, %v): got %d numbers, %d", dim, good(l...).brief(), len(wide), e)
		}
		if got := of(index.Gather(l, wide)); !got.is(good(v...)) {
			t.Errorf("Gather of %v: got %v", good(l...).brief(), got.brief())
		}
		zeros := 0
		for _, x := range wide {
			if x == 0 {
				zeros++
			}
		}
		if zeros != dim-len(l) {
			t.Errorf("Spread(%d, %v): got %d zeros", dim, good(l...).brief(), zeros)
		}
	})
}

// P6.3, P6.4: a list, and what it leaves, are all places, and none is in both.
func TestListAndWhatItLeavesAreAll(t *testing.T) {
	each(func(dim int, l []int) {
		left, e := index.Left(dim, l...)
		if e != api.OK || index.Check(dim, left...) != api.OK || len(l)+len(left) != dim {
			t.Errorf("Left(%d, %v): got %v, %d", dim, good(l...).brief(), good(left...).brief(), e)
		}
		if all := index.Merge(left, l); !slices.Equal(all, upTo(0, dim)) {
			t.Errorf("of %d, %v and what it leaves: got %v", dim, good(l...).brief(), good(all...).brief())
		}
		if back := of(index.Left(dim, left...)); !back.is(good(l...)) {
			t.Errorf("of %d, what is left of what %v leaves: got %v", dim, good(l...).brief(), back.brief())
		}
	})
}
