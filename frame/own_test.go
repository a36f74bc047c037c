package frame_test

import (
	"bytes"
	"slices"
	"testing"

	"thrum/api"
	"thrum/frame"
)

// roomy is a list with room behind it, which a call might write into; room is all of it.
func roomy[T any](l []T) []T {
	return append(make([]T, 0, 2*len(l)+8), l...)
}

func room[T any](l []T) []T { return l[:cap(l)] }

// fill writes x into a list, and into the room behind it.
func fill[T any](l []T, x T) {
	for i := range room(l) {
		room(l)[i] = x
	}
}

// own is a frame whose lists have room behind them, of which a copy was made.
func own(f api.Frame) api.Frame {
	f.S.L, f.S.V, f.S.Lev, f.S.Neg = roomy(f.S.L), roomy(f.S.V), roomy(f.S.Lev), roomy(f.S.Neg)
	return f
}

// kept tells whether an own frame is as it was, with nothing in the room behind its lists.
func kept(f, was api.Frame) bool {
	was = own(was)
	return equalFrames(f, was) && slices.Equal(room(f.S.L), room(was.S.L)) && slices.Equal(room(f.S.V), room(was.S.V)) &&
		slices.Equal(room(f.S.Lev), room(was.S.Lev)) && slices.Equal(room(f.S.Neg), room(was.S.Neg))
}

// junk writes into all lists of a frame, and into the room behind them.
func junk(f api.Frame) {
	fill(f.S.L, 77)
	fill(f.S.V, 78)
	fill(f.S.Lev, 79)
	for i, is := range room(f.S.Neg) {
		room(f.S.Neg)[i] = !is
	}
}

// four are frames with a vector of each scheme.
func four() []api.Frame {
	neg := []bool{true, false, true}
	return []api.Frame{
		data(1, 2, dense(3, -5, 1)),
		data(1, 2, places(9, list(1, 5), 7, -7)),
		data(1, 2, levels(200, 2, neg, 3, 0, 1)),
		data(1, 2, signs(5, neg...)),
	}
}

// R2: what is handed in stays as it is, also where a call goes wrong.
func TestArgumentsStay(t *testing.T) {
	all := four()
	for _, s := range mayNot() {
		all = append(all, data(1, 2, s), api.Frame{Kind: api.AckK, S: s})
	}
	for _, was := range all {
		f := own(was)
		frame.May(f.S)
		frame.Check(f)
		frame.Body(f.S)
		frame.Write(f)
		frame.Size(f)
		frame.Same(f, frame.Ack(1, 2))
		frame.Same(frame.Ack(1, 2), f)
		frame.Same(f, f)
		if !kept(f, was) {
			t.Errorf("got %v, was %v", brief(f.S), brief(was.S))
		}
	}
}

// R2: a text that is read stays as it is.
func TestTextsReadStay(t *testing.T) {
	for _, f := range four() {
		text, _ := frame.Write(f)
		spoilt := slices.Clone(text)
		spoilt[3]++
		for _, was := range [][]byte{text, spoilt, text[:len(text)-1], sealed(text...), nil} {
			b := roomy(was)
			frame.Read(b)
			if !bytes.Equal(room(b), room(roomy(was))) {
				t.Errorf("got %v, was %v", room(b), was)
			}
		}
	}
}

// R2: a text, and a body, are new: they share nothing with the frame, nor with one another.
func TestTextsAreNew(t *testing.T) {
	for name, call := range map[string]func(f api.Frame) ([]byte, api.Errno){
		"Write": frame.Write,
		"Body":  func(f api.Frame) ([]byte, api.Errno) { return frame.Body(f.S) },
	} {
		for _, was := range four() {
			f := own(was)
			got, e := call(f)
			again, _ := call(f)
			want := slices.Clone(got)
			if e != api.OK || len(got) == 0 {
				t.Fatalf("%s: got %v, %d", name, got, e)
			}
			fill(got, 99)
			if !bytes.Equal(again, want) || !kept(f, was) {
				t.Errorf("%s: what is written into the answer is elsewhere: %v, %v", name, again, f)
			}
			junk(f)
			if !bytes.Equal(again, want) {
				t.Errorf("%s: what is written into the argument is in the answer: %v", name, again)
			}
		}
	}
}

// R2: a frame that is read is new: its lists share nothing with the text, with one another, nor with another one's.
func TestFramesReadAreNew(t *testing.T) {
	for _, want := range four() {
		written, _ := frame.Write(want)
		b := roomy(written)
		got, e := frame.Read(b)
		again, e2 := frame.Read(b)
		fill(b, 99)
		if e != api.OK || e2 != api.OK || !equalFrames(got, want) || !equalFrames(again, want) {
			t.Errorf("what is written into the text is in the frame: %v, %d, %v, %d", got, e, again, e2)
		}
		junk(got)
		if !equalFrames(again, want) || !bytes.Equal(room(b), many(cap(b), byte(99))) {
			t.Errorf("what is written into the frame is elsewhere: %v, %v", again, b)
		}
	}
}

// R3: what is read has only what its scheme names.
func TestWhatIsReadHasNothingBeside(t *testing.T) {
	for _, want := range four() {
		b, _ := frame.Write(want)
		f, _ := frame.Read(b)
		lists := [4]bool{len(f.S.L) > 0, len(f.S.V) > 0, len(f.S.Lev) > 0, len(f.S.Neg) > 0}
		if lists != [...][4]bool{{false, true}, {true, true}, {false, false, true, true}, {false, false, false, true}}[f.S.Scheme] {
			t.Errorf("got %v", f)
		}
	}
}

// R5: a call tells the same again, whatever was asked between.
func TestNothingIsKept(t *testing.T) {
	good, bad := data(1, 2, dense(3, -5)), data(1, 2, api.Sent{Dim: 2})
	want, _ := frame.Write(good)
	for range 20 {
		if b, e := frame.Write(good); !bytes.Equal(b, want) || e != api.OK {
			t.Errorf("got %v, %d", b, e)
		}
		if b, e := frame.Write(bad); len(b) != 0 || e != api.ErrArg {
			t.Errorf("got %v, %d", b, e)
		}
		if f, e := frame.Read(want); !equalFrames(f, good) || e != api.OK {
			t.Errorf("got %v, %d", f, e)
		}
		if _, e := frame.Read(want[1:]); e != api.ErrSum {
			t.Errorf("got %d", e)
		}
	}
}
