package table_test

import (
	"slices"
	"sync"
	"testing"

	"thrum/api"
	"thrum/table"
)

// roomy are numbers with room behind them that is the caller's: a call might write into it.
func roomy() []int64 { return list(16, -5, 0, 88, -99, 111)[:3] }

// checkKept tells when those, or the room behind them, are not as they were.
func checkKept(t *testing.T, name string, z []int64) {
	t.Helper()
	if got := z[:cap(z)]; !slices.Equal(got, list(16, -5, 0, 88, -99, 111)) {
		t.Errorf("%s: got %v", name, got)
	}
}

// R2: what is handed in stays as it is, and what stands behind it, also where a call goes wrong.
func TestWhatIsHandedInStays(t *testing.T) {
	z := roomy()
	table.Best(z...)
	checkKept(t, "Best", z)
	table.Soft(4, z...)
	table.Soft(31, z...)
	table.Soft(4, z[:0]...)
	checkKept(t, "Soft", z)
	over := list(7, low, top, 9)
	table.Soft(4, over[:3]...)
	if !slices.Equal(over, list(7, low, top, 9)) {
		t.Errorf("got %v", over)
	}
	long := make([]int64, api.MaxDim+1)
	table.Best(long...)
	table.Soft(4, long...)
	if !slices.Equal(long, make([]int64, api.MaxDim+1)) {
		t.Error("a list that is too long is another one")
	}
}

// R2: shares are new, and share nothing with what was handed in or told.
func TestSharesAreNew(t *testing.T) {
	z := roomy()
	want := list(8, 3, 4)
	first, e := table.Soft(4, z...)
	again, _ := table.Soft(4, z...)
	if !slices.Equal(first, want) || e != api.OK {
		t.Fatalf("got %v, %d", first, e)
	}
	z[0], z[1], z[2] = 1, 2, 3
	if !slices.Equal(first, want) {
		t.Error("what is written into an argument is in the answer")
	}
	z[0], z[1], z[2] = 16, -5, 0
	for i := range first[:cap(first)] {
		first[:cap(first)][i] = 7
	}
	checkKept(t, "Soft", z)
	if third, _ := table.Soft(4, z...); !slices.Equal(again, want) || !slices.Equal(third, want) {
		t.Error("what is written into one answer is in another")
	}
}

// R2: the table told is new: what is written into it is in no other one, nor in what powers are told from.
func TestRowsAreNew(t *testing.T) {
	first, again := table.Rows(), table.Rows()
	for i := range first[:cap(first)] {
		first[:cap(first)][i] = 7
	}
	if !slices.Equal(again, tableRows()) || !slices.Equal(table.Rows(), tableRows()) {
		t.Error("what is written into one table is in another")
	}
	if got, e := table.Exp(-8, 4); got != 11 || e != api.OK {
		t.Errorf("got %d, %d", got, e)
	}
	if got, e := table.Soft(4, 0, 0); !slices.Equal(got, list(8, 8)) || e != api.OK {
		t.Errorf("got %v, %d", got, e)
	}
}

// R5: however many call at once, with the same numbers, all get the same.
func TestSideBySide(t *testing.T) {
	c := chance(3)
	z := c.numbers(300)
	was := slices.Clone(z)
	want, e := table.Soft(30, z...)
	got, are := make([][]int64, 50), make([]bool, 50)
	var all sync.WaitGroup
	for i := range got {
		all.Go(func() {
			got[i], _ = table.Soft(30, z...)
			best, _ := table.Best(z...)
			one, _ := table.Exp(-8, 4)
			are[i] = z[best] == slices.Max(z) && one == 11 && slices.Equal(table.Rows(), tableRows())
		})
	}
	all.Wait()
	for i, l := range got {
		if !slices.Equal(l, want) || !are[i] || e != api.OK {
			t.Errorf("%d: got %v, %d", i, l, e)
		}
	}
	if !slices.Equal(z, was) {
		t.Error("the numbers are others")
	}
}
