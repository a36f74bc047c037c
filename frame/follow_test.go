package frame_test

import (
	"bytes"
	"math"
	"slices"
	"strconv"
	"strings"
	"testing"

	"thrum/api"
	"thrum/crc"
	"thrum/frame"
)

// chance are numbers that look like it; others for another seed.
type chance uint64

func (c *chance) next() uint64 {
	*c = *c*6364136223846793005 + 1442695040888963407
	return uint64(*c >> 11)
}

// number is one of so many bits, or fewer, of either sign.
func (c *chance) number() int64 {
	n := int64(c.next()<<11|c.next()%2048) >> (c.next() % 64)
	return n
}

// numbers are so many, flags so many signs.
func (c *chance) numbers(n int) []int64 {
	l := make([]int64, n)
	for i := range l {
		l[i] = c.number()
	}
	return l
}

func (c *chance) flags(n int) []bool {
	l := make([]bool, n)
	for i := range l {
		l[i] = c.next()%2 == 0
	}
	return l
}

// vectors are one of each scheme (of levels one of each width), of a dimension.
func (c *chance) vectors(dim int) []api.Sent {
	var l []int
	every := c.next()%7 + 1
	for at := range dim {
		if c.next()%every == 0 {
			l = append(l, at)
		}
	}
	all := []api.Sent{dense(c.numbers(dim)...), places(dim, l, c.numbers(len(l))...), signs(c.number()&math.MaxInt64, c.flags(dim)...)}
	for wide := 1; wide <= 8; wide++ {
		lev := make([]uint64, dim)
		for i := range lev {
			lev[i] = c.next() % (1 << wide)
		}
		all = append(all, levels(c.number()&math.MaxInt64, wide, c.flags(dim), lev...))
	}
	return all
}

// frames are many that may be.
func frames() []api.Frame {
	l := []api.Frame{frame.Ack(0, 0), frame.Ack(63, 1<<30)}
	for _, s := range may() {
		l = append(l, data(len(l)%64, len(l)*1000, s))
	}
	c := chance(7)
	for _, dim := range []int{1, 2, 3, 5, 7, 8, 9, 15, 16, 17, 31, 64, 65, 100, 127, 128, 129, 1000, 4095, 4096} {
		from, step := int(c.next()%64), int(c.next()%(1<<30+1))
		l = append(l, frame.Ack(from, step))
		for _, s := range c.vectors(dim) {
			l = append(l, data(from, step>>(c.next()%31), s))
		}
	}
	return l
}

// bits are those of a word of 0 and 1, eight by eight, with 0 in what is left.
func bits(word string) []byte {
	var b []byte
	for len(word) > 0 {
		word += strings.Repeat("0", max(0, 8-len(word)))
		x, _ := strconv.ParseUint(word[:8], 2, 8)
		b, word = append(b, byte(x)), word[8:]
	}
	return b
}

// zig is a signed number's code, as the words tell it: that of 2n, of n below 0 of -2n - 1.
func zig(n int64) []byte {
	if n < 0 {
		return septets(uint64(-(n+1))*2 + 1)
	}
	return septets(uint64(n) * 2)
}

// signWord and planeWord are bits as the words tell their order.
func signWord(neg []bool) string {
	var word strings.Builder
	for _, is := range neg {
		if is {
			word.WriteByte('1')
		} else {
			word.WriteByte('0')
		}
	}
	return word.String()
}

func planeWord(wide int, lev []uint64) string {
	var word strings.Builder
	for bit := wide - 1; bit >= 0; bit-- {
		for _, n := range lev {
			word.WriteByte('0' + byte(n>>bit&1))
		}
	}
	return word.String()
}

// bodyByWords is a vector's body as the chapter's words tell it.
func bodyByWords(s api.Sent) []byte {
	b := append([]byte{byte(s.Scheme)}, septets(s.Dim)...)
	switch s.Scheme {
	case 1:
		b = append(b, septets(len(s.L))...)
		for i, at := range s.L {
			ahead := -1
			if i > 0 {
				ahead = s.L[i-1]
			}
			b = append(b, septets(at-ahead-1)...)
		}
	case 2:
		b = append(append(b, septets(s.Scale)...), byte(s.Wide))
		b = append(b, bits(planeWord(s.Wide, s.Lev))...)
	case 3:
		b = append(b, septets(s.Scale)...)
	}
	for _, n := range s.V {
		b = append(b, zig(n)...)
	}
	return append(b, bits(signWord(s.Neg))...)
}

// textByWords is a frame's text as the chapter's words tell it, without its sum.
func textByWords(f api.Frame) []byte {
	b := slices.Concat([]byte{1, byte(f.Kind)}, septets(f.From), septets(f.Step))
	if f.Kind == 1 {
		b = append(b, bodyByWords(f.S)...)
	}
	return b
}

// P7.2, P7.3, P7.4: texts are as the words tell, and what was written is read.
func TestTextsAreAsTheWordsTell(t *testing.T) {
	for _, f := range frames() {
		if e := frame.Check(f); e != api.OK {
			t.Fatalf("Check of %d, %d, %d, %v: got %d", f.Kind, f.From, f.Step, brief(f.S), e)
		}
		checkWritten(t, written{f, textByWords(f)})
		if f.Kind != api.DataK {
			continue
		}
		if got, e := frame.Body(f.S); !bytes.Equal(got, bodyByWords(f.S)) || e != api.OK {
			t.Errorf("Body of %v: got %v, %d", brief(f.S), briefly(got), e)
		}
	}
}

// P7.4: what was written is read, and is the same; so is what is written of that.
func TestWhatWasWrittenIsRead(t *testing.T) {
	for _, f := range frames() {
		b, e := frame.Write(f)
		got, e2 := frame.Read(b)
		if e != api.OK || e2 != api.OK || !frame.Same(got, f) || !frame.Same(f, got) {
			t.Errorf("of %d, %d, %d, %v: got %d, %d, %v", f.Kind, f.From, f.Step, brief(f.S), e, e2, brief(got.S))
		}
		if again, e := frame.Write(got); e != api.OK || !bytes.Equal(again, b) {
			t.Errorf("of %d, %d, %d, %v: written again got %v, %d", f.Kind, f.From, f.Step, brief(f.S), briefly(again), e)
		}
	}
}

// P7.3: a text without its end, or with more behind it, is no frame's, though its sum is right.
func TestTextsEndWhereFramesDo(t *testing.T) {
	for _, f := range frames() {
		b := textByWords(f)
		for n := range b {
			// Of long texts, some ends do.
			if n > 60 && n%501 != 0 && n < len(b)-3 {
				continue
			}
			checkRead(t, "without its end", sealed(b[:n]...), api.ErrForm)
		}
		for _, x := range [][]byte{{0}, {1}, {128}, {255}, {0, 0}, {1, 1, 0, 0, 0, 1, 0}} {
			checkRead(t, "with more behind", sealed(slices.Concat(b, x)...), api.ErrForm)
		}
	}
}

// someFrames are all frames of few workers, steps and numbers whose texts may be made of few bytes.
func someFrames() []api.Frame {
	var l []api.Frame
	for _, s := range someVectors() {
		for from := range 3 {
			l = append(l, data(from, 2-from, s))
		}
	}
	for from := range 3 {
		for step := range 3 {
			l = append(l, frame.Ack(from, step))
		}
	}
	return l
}

// someVectors are all vectors of one and two numbers that are small.
func someVectors() []api.Sent {
	flags := [][]bool{{false}, {true}, {false, false}, {false, true}, {true, false}, {true, true}}
	var l []api.Sent
	for n := int64(-2); n <= 1; n++ {
		l = append(l, dense(n), places(1, list(0), n), places(2, list(0), n), places(2, list(1), n))
		for m := int64(-2); m <= 1; m++ {
			l = append(l, dense(n, m), places(2, list(0, 1), n, m))
		}
	}
	l = append(l, places(1, nil), places(2, nil))
	for _, neg := range flags {
		for scale := range int64(3) {
			l = append(l, signs(scale, neg...))
			for wide := 1; wide <= 2; wide++ {
				for n := range uint64(1) << (wide * len(neg)) {
					l = append(l, levels(scale, wide, neg, []uint64{n % (1 << wide), n >> wide}[:len(neg)]...))
				}
			}
		}
	}
	return l
}

// P7.3: of all texts of a few bytes, those of frames are read, and no others.
func TestOnlyTextsOfFramesAreRead(t *testing.T) {
	all := map[string]api.Frame{}
	for _, f := range someFrames() {
		all[string(textByWords(f))] = f
	}
	var walk func(b []byte, some []byte, more int)
	walk = func(b []byte, some []byte, more int) {
		f, e := frame.Read(sealed(b...))
		if want, is := all[string(b)]; is {
			delete(all, string(b))
			if e != api.OK || !equalFrames(f, want) {
				t.Errorf("Read of %v: got %v, %d", b, f, e)
			}
		} else if !fine(b, f, e) {
			t.Errorf("Read of %v: got %v, %d", b, f, e)
		}
		if more == 0 {
			return
		}
		for _, x := range some {
			walk(append(slices.Clone(b), x), some, more-1)
		}
	}
	walk(nil, text(0, 1, 2, 3, 128), 5)
	for from := range byte(3) {
		head := text(1, 1, from, 2-from)
		walk(append(head, 0), text(0, 1, 2, 3, 128), 4)
		walk(append(head, 1), text(0, 1, 2, 3, 128), 6)
		walk(append(head, 3), text(0, 1, 2, 3, 64, 128, 192, 160), 4)
		walk(append(head, 4), text(0, 1, 2, 3, 64, 128, 192, 160), 4)
		for dim := range byte(3) {
			for scale := range byte(3) {
				walk(append(head, 2, dim, scale), text(0, 1, 2, 16, 32, 48, 64, 80, 96, 112, 128, 144, 160, 176, 192, 208, 224, 240, 3), 3)
			}
		}
	}
	for b, f := range all {
		t.Errorf("%v: %v is not among the texts", []byte(b), f)
	}
}

// fine tells whether what was read of a text (without its sum) may be: no frame, or one of which it is the text.
func fine(b []byte, f api.Frame, e api.Errno) bool {
	if e == api.OK {
		return frame.Check(f) == api.OK && bytes.Equal(textByWords(f), b)
	}
	return e == api.ErrForm && equalFrames(f, api.Frame{})
}

// P7.3: of texts in which one byte is another one, those are read that are written so again.
func TestAnotherByte(t *testing.T) {
	for _, x := range examples() {
		if len(x.b) > 100 {
			continue
		}
		for i := range x.b {
			for other := range 256 {
				b := slices.Clone(x.b)
				b[i] = byte(other)
				f, e := frame.Read(sealed(b...))
				if !fine(b, f, e) {
					t.Errorf("Read of %v: got %v, %d", b, f, e)
				}
			}
		}
	}
}

// P7.4: a frame of which up to 32 bits beside one another were turned is none.
func TestTurnedBits(t *testing.T) {
	for _, x := range examples() {
		if len(x.b) > 100 {
			continue
		}
		b := sealed(x.b...)
		for at := range 8 * len(b) {
			for _, pattern := range []uint32{1, 3, 5, 0x80000001, 0xffffffff, 0xedb88320, 0x9e3779b9, 0xff, 0x10001} {
				checkRead(t, "turned", turned(t, b, at, pattern), api.ErrSum)
			}
		}
	}
}

// turned is a text with those of 32 bits from a place on turned that a pattern names, as far as there are any. The first one always is.
func turned(t *testing.T, b []byte, at int, pattern uint32) []byte {
	t.Helper()
	for i := range min(32, 8*len(b)-at) {
		if i > 0 && pattern>>i&1 == 0 {
			continue
		}
		spoilt, e := crc.Turn(b, at+i)
		if e != api.OK {
			t.Fatal(e)
		}
		b = spoilt
	}
	return b
}

// P7.4: so it is of long frames, at some places.
func TestTurnedBitsOfLongFrames(t *testing.T) {
	for _, f := range frames() {
		b, _ := frame.Write(f)
		for i := range 5 {
			checkRead(t, "turned", turned(t, b, len(b)*8*i/5, 0x80000001), api.ErrSum)
		}
	}
}
