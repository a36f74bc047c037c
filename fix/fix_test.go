package fix_test

import (
	"math"
	"math/big"
	"testing"

	"thrum/api"
	"thrum/fix"
)

const (
	top = math.MaxInt64
	low = math.MinInt64
)

// answer is a number, and an error.
type answer struct {
	n int64
	e api.Errno
}

func of(n int64, e api.Errno) answer { return answer{n: n, e: e} }

func good(n int64) answer { return answer{n: n, e: api.OK} }

func bad(e api.Errno) answer { return answer{e: e} }

// example is a call as it is written, what it answers, and what it is to answer.
type example struct {
	call string
	got  answer
	want answer
}

func checkAll(t *testing.T, l []example) {
	t.Helper()
	for _, x := range l {
		if x.got != x.want {
			t.Errorf("%s: got %v, not %v", x.call, x.got, x.want)
		}
	}
}

// edges are numbers around those at which something may turn over, and others between them.
func edges() []int64 {
	l := []int64{low, low + 1, low + 2, top, top - 1, top - 2, 0}
	for _, bit := range []int{0, 1, 2, 15, 29, 30, 31, 32, 33, 34, 47, 61, 62} {
		n := int64(1) << bit
		l = append(l, n, n-1, n+1, -n, -n-1, 1-n)
	}
	// Steps of an odd number that go around reach all bits.
	n := uint64(0x9e3779b97f4a7c15)
	for i := range uint64(40) {
		l = append(l, int64(n*(i+1))>>(i%5*12))
	}
	return l
}

func whole(n int64) *big.Int { return big.NewInt(n) }

// place is a whole number without end as an answer.
func place(n *big.Int) answer {
	if !n.IsInt64() {
		return bad(api.ErrOver)
	}
	return good(n.Int64())
}

// down is a by b, down.
func down(a, b *big.Int) *big.Int {
	n, rest := new(big.Int).QuoRem(a, b, new(big.Int))
	if rest.Sign() != 0 && a.Sign() != b.Sign() {
		n.Sub(n, whole(1))
	}
	return n
}

func power(by int) *big.Int { return new(big.Int).Lsh(whole(1), uint(by)) }

// P1.1: Add.
func TestAddExamples(t *testing.T) {
	checkAll(t, []example{
		{"Add(2, 3)", of(fix.Add(2, 3)), good(5)},
		{"Add(2, -5)", of(fix.Add(2, -5)), good(-3)},
		{"Add(0, 0)", of(fix.Add(0, 0)), good(0)},
		{"Add(top, 0)", of(fix.Add(top, 0)), good(top)},
		{"Add(top, 1)", of(fix.Add(top, 1)), bad(api.ErrOver)},
		{"Add(1, top)", of(fix.Add(1, top)), bad(api.ErrOver)},
		{"Add(top, top)", of(fix.Add(top, top)), bad(api.ErrOver)},
		{"Add(low, 0)", of(fix.Add(low, 0)), good(low)},
		{"Add(low, -1)", of(fix.Add(low, -1)), bad(api.ErrOver)},
		{"Add(-1, low)", of(fix.Add(-1, low)), bad(api.ErrOver)},
		{"Add(low, low)", of(fix.Add(low, low)), bad(api.ErrOver)},
		{"Add(low, top)", of(fix.Add(low, top)), good(-1)},
	})
}

// P1.1: Sub.
func TestSubExamples(t *testing.T) {
	checkAll(t, []example{
		{"Sub(2, 5)", of(fix.Sub(2, 5)), good(-3)},
		{"Sub(2, -5)", of(fix.Sub(2, -5)), good(7)},
		{"Sub(low, 0)", of(fix.Sub(low, 0)), good(low)},
		{"Sub(low, 1)", of(fix.Sub(low, 1)), bad(api.ErrOver)},
		{"Sub(low, top)", of(fix.Sub(low, top)), bad(api.ErrOver)},
		{"Sub(low, low)", of(fix.Sub(low, low)), good(0)},
		{"Sub(top, -1)", of(fix.Sub(top, -1)), bad(api.ErrOver)},
		{"Sub(top, low)", of(fix.Sub(top, low)), bad(api.ErrOver)},
		{"Sub(0, low)", of(fix.Sub(0, low)), bad(api.ErrOver)},
		{"Sub(-1, low)", of(fix.Sub(-1, low)), good(top)},
	})
}

// P1.1: Neg, Abs.
func TestNegAbsExamples(t *testing.T) {
	checkAll(t, []example{
		{"Neg(7)", of(fix.Neg(7)), good(-7)},
		{"Neg(-7)", of(fix.Neg(-7)), good(7)},
		{"Neg(0)", of(fix.Neg(0)), good(0)},
		{"Neg(top)", of(fix.Neg(top)), good(-top)},
		{"Neg(low+1)", of(fix.Neg(low + 1)), good(top)},
		{"Neg(low)", of(fix.Neg(low)), bad(api.ErrOver)},
		{"Abs(9)", of(fix.Abs(9)), good(9)},
		{"Abs(-9)", of(fix.Abs(-9)), good(9)},
		{"Abs(0)", of(fix.Abs(0)), good(0)},
		{"Abs(top)", of(fix.Abs(top)), good(top)},
		{"Abs(low+1)", of(fix.Abs(low + 1)), good(top)},
		{"Abs(low)", of(fix.Abs(low)), bad(api.ErrOver)},
	})
}

// P1.1: Clip.
func TestClipExamples(t *testing.T) {
	checkAll(t, []example{
		{"Clip(4, 9)", of(fix.Clip(4, 9)), good(4)},
		{"Clip(9, 9)", of(fix.Clip(9, 9)), good(9)},
		{"Clip(10, 9)", of(fix.Clip(10, 9)), good(9)},
		{"Clip(-9, 9)", of(fix.Clip(-9, 9)), good(-9)},
		{"Clip(-10, 9)", of(fix.Clip(-10, 9)), good(-9)},
		{"Clip(5, 0)", of(fix.Clip(5, 0)), good(0)},
		{"Clip(-5, 0)", of(fix.Clip(-5, 0)), good(0)},
		{"Clip(0, 0)", of(fix.Clip(0, 0)), good(0)},
		{"Clip(low, top)", of(fix.Clip(low, top)), good(-top)},
		{"Clip(top, top)", of(fix.Clip(top, top)), good(top)},
		{"Clip(1, -1)", of(fix.Clip(1, -1)), bad(api.ErrArg)},
		{"Clip(0, low)", of(fix.Clip(0, low)), bad(api.ErrArg)},
	})
}

// P1.1: all of it, held against numbers without end.
func TestSumsAreThoseWithoutEnd(t *testing.T) {
	for _, a := range edges() {
		if got, want := of(fix.Neg(a)), place(new(big.Int).Neg(whole(a))); got != want {
			t.Errorf("Neg(%d): got %v, not %v", a, got, want)
		}
		if got, want := of(fix.Abs(a)), place(new(big.Int).Abs(whole(a))); got != want {
			t.Errorf("Abs(%d): got %v, not %v", a, got, want)
		}
		for _, b := range edges() {
			if got, want := of(fix.Add(a, b)), place(new(big.Int).Add(whole(a), whole(b))); got != want {
				t.Errorf("Add(%d, %d): got %v, not %v", a, b, got, want)
			}
			if got, want := of(fix.Sub(a, b)), place(new(big.Int).Sub(whole(a), whole(b))); got != want {
				t.Errorf("Sub(%d, %d): got %v, not %v", a, b, got, want)
			}
			if got, want := of(fix.Clip(a, b)), nearest(a, b); got != want {
				t.Errorf("Clip(%d, %d): got %v, not %v", a, b, got, want)
			}
		}
	}
}

func nearest(a, most int64) answer {
	switch {
	case most < 0:
		return bad(api.ErrArg)
	case a > most:
		return good(most)
	case a < -most:
		return good(-most)
	}
	return good(a)
}

// P1.2: Wide.
func TestWideExamples(t *testing.T) {
	for _, x := range []struct {
		a, b, hi int64
		lo       uint64
	}{
		{3, 4, 0, 12},
		{-3, 4, -1, 1<<64 - 12},
		{3, -4, -1, 1<<64 - 12},
		{-3, -4, 0, 12},
		{0, low, 0, 0},
		{low, 1, -1, 1 << 63},
		{low, -1, 0, 1 << 63},
		{low, low, 1 << 62, 0},
		{low, top, -1 << 62, 1 << 63},
		{top, top, 1<<62 - 1, 1},
		{top, 2, 0, 1<<64 - 2},
		{1 << 40, 1 << 40, 1 << 16, 0},
	} {
		if hi, lo := fix.Wide(x.a, x.b); hi != x.hi || lo != x.lo {
			t.Errorf("Wide(%d, %d): got %d, %d, not %d, %d", x.a, x.b, hi, lo, x.hi, x.lo)
		}
	}
}

// P1.2: Mul.
func TestMulExamples(t *testing.T) {
	checkAll(t, []example{
		{"Mul(-3, 1, 1)", of(fix.Mul(-3, 1, 1)), good(-2)},
		{"Mul(3, 5, 0)", of(fix.Mul(3, 5, 0)), good(15)},
		{"Mul(3, 5, 1)", of(fix.Mul(3, 5, 1)), good(7)},
		{"Mul(-3, 5, 1)", of(fix.Mul(-3, 5, 1)), good(-8)},
		{"Mul(-3, -5, 1)", of(fix.Mul(-3, -5, 1)), good(7)},
		{"Mul(-1, 1, 30)", of(fix.Mul(-1, 1, 30)), good(-1)},
		{"Mul(1, 1, 30)", of(fix.Mul(1, 1, 30)), good(0)},
		{"Mul(0, low, 30)", of(fix.Mul(0, low, 30)), good(0)},
		{"Mul(1<<40, 1<<40, 30)", of(fix.Mul(1<<40, 1<<40, 30)), good(1 << 50)},
		{"Mul(1<<40, 1<<40, 17)", of(fix.Mul(1<<40, 1<<40, 17)), bad(api.ErrOver)},
		{"Mul(-1<<40, 1<<40, 17)", of(fix.Mul(-1<<40, 1<<40, 17)), good(low)},
		{"Mul(-1<<40, 1<<40, 16)", of(fix.Mul(-1<<40, 1<<40, 16)), bad(api.ErrOver)},
		{"Mul(1<<32, 1<<32, 0)", of(fix.Mul(1<<32, 1<<32, 0)), bad(api.ErrOver)},
		{"Mul(low, 1, 0)", of(fix.Mul(low, 1, 0)), good(low)},
		{"Mul(low, -1, 0)", of(fix.Mul(low, -1, 0)), bad(api.ErrOver)},
		{"Mul(low, -1, 1)", of(fix.Mul(low, -1, 1)), good(1 << 62)},
		{"Mul(low, low, 30)", of(fix.Mul(low, low, 30)), bad(api.ErrOver)},
		{"Mul(top, 1<<30, 30)", of(fix.Mul(top, 1<<30, 30)), good(top)},
		{"Mul(1, 1, -1)", of(fix.Mul(1, 1, -1)), bad(api.ErrArg)},
		{"Mul(1, 1, 31)", of(fix.Mul(1, 1, 31)), bad(api.ErrArg)},
		{"Mul(top, top, 31)", of(fix.Mul(top, top, 31)), bad(api.ErrArg)},
		{"Mul(1, 1, MinInt)", of(fix.Mul(1, 1, math.MinInt)), bad(api.ErrArg)},
		{"Mul(1, 1, MaxInt)", of(fix.Mul(1, 1, math.MaxInt)), bad(api.ErrArg)},
	})
}

// P1.2: all of it, held against numbers without end.
func TestProductsAreThoseWithoutEnd(t *testing.T) {
	for _, a := range edges() {
		for _, b := range edges() {
			product := new(big.Int).Mul(whole(a), whole(b))
			hi, lo := fix.Wide(a, b)
			wide := new(big.Int).Lsh(whole(hi), 64)
			wide.Add(wide, new(big.Int).SetUint64(lo))
			if wide.Cmp(product) != 0 {
				t.Errorf("Wide(%d, %d): got %d, %d", a, b, hi, lo)
			}
			for frac := range api.MaxFrac + 1 {
				if got, want := of(fix.Mul(a, b, frac)), place(down(product, power(frac))); got != want {
					t.Errorf("Mul(%d, %d, %d): got %v, not %v", a, b, frac, got, want)
				}
			}
		}
	}
}

// P1.3: Div.
func TestDivExamples(t *testing.T) {
	checkAll(t, []example{
		{"Div(1, 3, 4)", of(fix.Div(1, 3, 4)), good(5)},
		{"Div(7, 2, 0)", of(fix.Div(7, 2, 0)), good(3)},
		{"Div(-7, 2, 0)", of(fix.Div(-7, 2, 0)), good(-4)},
		{"Div(7, -2, 0)", of(fix.Div(7, -2, 0)), good(-4)},
		{"Div(-7, -2, 0)", of(fix.Div(-7, -2, 0)), good(3)},
		{"Div(-8, 2, 0)", of(fix.Div(-8, 2, 0)), good(-4)},
		{"Div(7, -2, 1)", of(fix.Div(7, -2, 1)), good(-7)},
		{"Div(-1, 3, 8)", of(fix.Div(-1, 3, 8)), good(-86)},
		{"Div(1, top, 30)", of(fix.Div(1, top, 30)), good(0)},
		{"Div(-1, top, 30)", of(fix.Div(-1, top, 30)), good(-1)},
		{"Div(1, low, 30)", of(fix.Div(1, low, 30)), good(-1)},
		{"Div(0, low, 30)", of(fix.Div(0, low, 30)), good(0)},
		{"Div(low, low, 30)", of(fix.Div(low, low, 30)), good(1 << 30)},
		{"Div(1<<50, 1<<20, 30)", of(fix.Div(1<<50, 1<<20, 30)), good(1 << 60)},
		{"Div(1<<33, 1, 30)", of(fix.Div(1<<33, 1, 30)), bad(api.ErrOver)},
		{"Div(-1<<33, 1, 30)", of(fix.Div(-1<<33, 1, 30)), good(low)},
		{"Div(-1<<33-1, 1, 30)", of(fix.Div(-1<<33-1, 1, 30)), bad(api.ErrOver)},
		{"Div(low, 1, 0)", of(fix.Div(low, 1, 0)), good(low)},
		{"Div(low, -1, 0)", of(fix.Div(low, -1, 0)), bad(api.ErrOver)},
		{"Div(top, 1, 1)", of(fix.Div(top, 1, 1)), bad(api.ErrOver)},
		{"Div(1, 1, 30)", of(fix.Div(1, 1, 30)), good(1 << 30)},
		{"Div(1, 0, 0)", of(fix.Div(1, 0, 0)), bad(api.ErrArg)},
		{"Div(0, 0, 30)", of(fix.Div(0, 0, 30)), bad(api.ErrArg)},
		{"Div(1, 1, -1)", of(fix.Div(1, 1, -1)), bad(api.ErrArg)},
		{"Div(1, 1, 31)", of(fix.Div(1, 1, 31)), bad(api.ErrArg)},
		{"Div(top, 1, 31)", of(fix.Div(top, 1, 31)), bad(api.ErrArg)},
		{"Div(1, 1, MinInt)", of(fix.Div(1, 1, math.MinInt)), bad(api.ErrArg)},
		{"Div(1, 1, MaxInt)", of(fix.Div(1, 1, math.MaxInt)), bad(api.ErrArg)},
	})
}

// P1.3: Quot.
func TestQuotExamples(t *testing.T) {
	checkAll(t, []example{
		{"Quot(-7, 2)", of(fix.Quot(-7, 2)), good(-4)},
		{"Quot(9, 4)", of(fix.Quot(9, 4)), good(2)},
		{"Quot(-9, -4)", of(fix.Quot(-9, -4)), good(2)},
		{"Quot(9, -4)", of(fix.Quot(9, -4)), good(-3)},
		{"Quot(8, -4)", of(fix.Quot(8, -4)), good(-2)},
		{"Quot(0, -4)", of(fix.Quot(0, -4)), good(0)},
		{"Quot(top, low)", of(fix.Quot(top, low)), good(-1)},
		{"Quot(low, low)", of(fix.Quot(low, low)), good(1)},
		{"Quot(low, 1)", of(fix.Quot(low, 1)), good(low)},
		{"Quot(low, -1)", of(fix.Quot(low, -1)), bad(api.ErrOver)},
		{"Quot(7, 0)", of(fix.Quot(7, 0)), bad(api.ErrArg)},
		{"Quot(0, 0)", of(fix.Quot(0, 0)), bad(api.ErrArg)},
	})
}

// P1.3: Shift.
func TestShiftExamples(t *testing.T) {
	checkAll(t, []example{
		{"Shift(5, 1)", of(fix.Shift(5, 1)), good(2)},
		{"Shift(-5, 1)", of(fix.Shift(-5, 1)), good(-3)},
		{"Shift(-4, 1)", of(fix.Shift(-4, 1)), good(-2)},
		{"Shift(-5, 0)", of(fix.Shift(-5, 0)), good(-5)},
		{"Shift(top, 62)", of(fix.Shift(top, 62)), good(1)},
		{"Shift(low, 62)", of(fix.Shift(low, 62)), good(-2)},
		{"Shift(-1, 62)", of(fix.Shift(-1, 62)), good(-1)},
		{"Shift(low, 0)", of(fix.Shift(low, 0)), good(low)},
		{"Shift(1, -1)", of(fix.Shift(1, -1)), bad(api.ErrArg)},
		{"Shift(1, 63)", of(fix.Shift(1, 63)), bad(api.ErrArg)},
		{"Shift(-1, 63)", of(fix.Shift(-1, 63)), bad(api.ErrArg)},
		{"Shift(1, MinInt)", of(fix.Shift(1, math.MinInt)), bad(api.ErrArg)},
		{"Shift(1, MaxInt)", of(fix.Shift(1, math.MaxInt)), bad(api.ErrArg)},
	})
}

// P1.3: all of it, held against numbers without end.
func TestQuotientsAreThoseWithoutEnd(t *testing.T) {
	for _, a := range edges() {
		for by := range 63 {
			if got, want := of(fix.Shift(a, by)), place(down(whole(a), power(by))); got != want {
				t.Errorf("Shift(%d, %d): got %v, not %v", a, by, got, want)
			}
		}
		for _, b := range edges() {
			for frac := range api.MaxFrac + 1 {
				if got, want := of(fix.Div(a, b, frac)), quotient(a, b, frac); got != want {
					t.Errorf("Div(%d, %d, %d): got %v, not %v", a, b, frac, got, want)
				}
			}
			if got, want := of(fix.Quot(a, b)), quotient(a, b, 0); got != want {
				t.Errorf("Quot(%d, %d): got %v, not %v", a, b, got, want)
			}
		}
	}
}

func quotient(a, b int64, frac int) answer {
	if b == 0 {
		return bad(api.ErrArg)
	}
	return place(down(new(big.Int).Mul(whole(a), power(frac)), whole(b)))
}

// P1.4: what was added is taken away again.
func TestWhatWasAddedIsTakenAway(t *testing.T) {
	sums, rests := 0, 0
	for _, a := range edges() {
		for _, b := range edges() {
			if sum, e := fix.Add(a, b); e == api.OK {
				sums++
				if got := of(fix.Sub(sum, b)); got != good(a) {
					t.Errorf("Sub(Add(%d, %d), %d): got %v", a, b, b, got)
				}
			}
			if rest, e := fix.Sub(a, b); e == api.OK {
				rests++
				if got := of(fix.Add(rest, b)); got != good(a) {
					t.Errorf("Add(Sub(%d, %d), %d): got %v", a, b, b, got)
				}
			}
		}
	}
	if sums == 0 || rests == 0 {
		t.Errorf("%d sums, %d differences", sums, rests)
	}
}

// P1.4: products of numbers that are small enough are products.
func TestSmallProductsAreProducts(t *testing.T) {
	const most = 1<<31 - 1
	small := 0
	for _, a := range edges() {
		for _, b := range edges() {
			if a < -most || a > most || b < -most || b > most {
				continue
			}
			small++
			if got := of(fix.Mul(a, b, 0)); got != good(a*b) {
				t.Errorf("Mul(%d, %d, 0): got %v", a, b, got)
			}
		}
	}
	if small == 0 {
		t.Error("no products")
	}
}

// P1.4: what is divided is the quotient times what it was divided by, and a rest of the latter's sign that is smaller.
func TestWhatIsDividedIsLittleAboveTheQuotient(t *testing.T) {
	quotients := 0
	for _, a := range edges() {
		for _, b := range edges() {
			for frac := range api.MaxFrac + 1 {
				n, e := fix.Div(a, b, frac)
				if e != api.OK {
					continue
				}
				quotients++
				rest := new(big.Int).Mul(whole(a), power(frac))
				rest.Sub(rest, new(big.Int).Mul(whole(n), whole(b)))
				if rest.Sign() == -whole(b).Sign() || rest.CmpAbs(whole(b)) >= 0 {
					t.Errorf("Div(%d, %d, %d): got %d, the rest is %v", a, b, frac, n, rest)
				}
			}
		}
	}
	if quotients == 0 {
		t.Error("no quotients")
	}
}
