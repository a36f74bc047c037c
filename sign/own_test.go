package sign_test

import (
	"slices"
	"sync"
	"testing"

	"thrum/api"
	"thrum/sign"
)

// roomy are numbers, roomySigns signs, with room behind them that is the caller's: a call might write into it.
func roomy() []int64 { return vector(3, -5, 0, 88, -99, 111)[:3] }

func roomySigns() []bool { return said("010101")[:3] }

// checkKept tells when those, or the room behind them, are not as they were.
func checkKept(t *testing.T, name string, v []int64, l ...[]bool) {
	t.Helper()
	if got := v[:cap(v)]; !slices.Equal(got, vector(3, -5, 0, 88, -99, 111)) {
		t.Errorf("%s: got %v", name, got)
	}
	for _, one := range l {
		if got := one[:cap(one)]; !slices.Equal(got, said("010101")) {
			t.Errorf("%s: got %v", name, got)
		}
	}
}

// R2: what is handed in stays as it is, and what stands behind it.
func TestWhatIsHandedInStays(t *testing.T) {
	v, a, b := roomy(), roomySigns(), roomySigns()
	s := pressed(2, a...)
	sign.Mean(v...)
	sign.Press(v...)
	checkKept(t, "Press", v, a, b)
	sign.Loosen(s)
	sign.Is(v, s)
	sign.Is(v[:2], s)
	checkKept(t, "Is", v, a, b)
	all := [][]bool{a, b, a, b}
	sign.Votes(all[:3]...)
	sign.Turns(a, b)
	checkKept(t, "Votes", v, a, b)
	if &all[0][0] != &a[0] || &all[1][0] != &b[0] || &all[2][0] != &a[0] || &all[3][0] != &b[0] {
		t.Error("the lists are others")
	}
}

// R2: also where a call goes wrong.
func TestWhatIsHandedInStaysOfErrors(t *testing.T) {
	v, a, b := roomy(), roomySigns(), roomySigns()
	sign.Mean(v[:0]...)
	sign.Press(v[:0]...)
	s := pressed(-2, a...)
	sign.Loosen(s)
	sign.Is(v, s)
	sign.Votes(a, b[:2], a)
	sign.Turns(a[:1], b)
	checkKept(t, "wrong", v, a, b)
	over := vector(most, -5, low, 7)
	sign.Mean(over[:3]...)
	sign.Press(over[:3]...)
	if !slices.Equal(over, vector(most, -5, low, 7)) {
		t.Errorf("got %v", over)
	}
}

// R2: what is pressed is new, and shares nothing with what was handed in or told.
func TestWhatIsPressedIsNew(t *testing.T) {
	v := roomy()
	want := pressed(2, false, true, false)
	first, e := sign.Press(v...)
	again, _ := sign.Press(v...)
	if !same(first, want) || e != api.OK {
		t.Fatalf("got %v, %d", first, e)
	}
	v[0], v[1] = -3, 5
	if !same(first, want) {
		t.Error("what is written into an argument is in the answer")
	}
	v[0], v[1] = 3, -5
	for i := range first.Neg[:cap(first.Neg)] {
		first.Neg[:cap(first.Neg)][i] = true
	}
	checkKept(t, "Press", v)
	if third, _ := sign.Press(v...); !same(again, want) || !same(third, want) {
		t.Error("what is written into one answer is in another")
	}
}

// R2: what is loosened is new.
func TestWhatIsLoosenedIsNew(t *testing.T) {
	s := pressed(2, roomySigns()...)
	want := vector(2, -2, 2)
	first, e := sign.Loosen(s)
	again, _ := sign.Loosen(s)
	if !slices.Equal(first, want) || e != api.OK {
		t.Fatalf("got %v, %d", first, e)
	}
	s.Neg[0], s.Neg[1] = true, false
	if !slices.Equal(first, want) {
		t.Error("what is written into the argument is in the answer")
	}
	s.Neg[0], s.Neg[1] = false, true
	for i := range first[:cap(first)] {
		first[:cap(first)][i] = 7
	}
	if third, _ := sign.Loosen(s); !slices.Equal(again, want) || !slices.Equal(third, want) {
		t.Error("what is written into one answer is in another")
	}
}

// R2: votes are new, also those of one list alone.
func TestVotesAreNew(t *testing.T) {
	for of := 1; of < 4; of++ {
		a := roomySigns()
		l := slices.Repeat(lists(a), of)
		want := said("010")
		first, e := sign.Votes(l...)
		again, _ := sign.Votes(l...)
		if !slices.Equal(first, want) || e != api.OK {
			t.Fatalf("%d: got %v, %d", of, first, e)
		}
		a[0], a[1] = true, false
		if !slices.Equal(first, want) {
			t.Errorf("%d: what is written into an argument is in the answer", of)
		}
		a[0], a[1] = false, true
		for i := range first[:cap(first)] {
			first[:cap(first)][i] = true
		}
		checkKept(t, "Votes", roomy(), a)
		if third, _ := sign.Votes(l...); !slices.Equal(again, want) || !slices.Equal(third, want) {
			t.Errorf("%d: what is written into one answer is in another", of)
		}
	}
}

// R5: however many call at once, with the same numbers, all get the same.
func TestSideBySide(t *testing.T) {
	v := many(300)
	want, _ := sign.Press(v...)
	loose, _ := sign.Loosen(want)
	got, are := make([]api.Sent, 50), make([]bool, 50)
	var all sync.WaitGroup
	for i := range got {
		all.Go(func() {
			got[i], _ = sign.Press(v...)
			back, _ := sign.Loosen(want)
			votes, _ := sign.Votes(want.Neg, want.Neg, got[i].Neg)
			turns, _ := sign.Turns(votes, want.Neg)
			are[i] = sign.Is(v, want) && turns == 0 && slices.Equal(back, loose)
		})
	}
	all.Wait()
	for i, s := range got {
		if !same(s, want) || !are[i] {
			t.Errorf("%d: got %v", i, s)
		}
	}
	if !slices.Equal(v, many(300)) {
		t.Error("the numbers are others")
	}
}
