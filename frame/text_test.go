package frame_test

import (
	"bytes"
	"hash/crc32"
	"math"
	"slices"
	"testing"

	"thrum/api"
	"thrum/frame"
)

// text is a text as it is written, briefly its beginning.
func text(b ...byte) []byte { return b }

func briefly(b []byte) []byte { return b[:min(len(b), 40)] }

// sealed is a text with its sum behind it, as another program makes it.
func sealed(b ...byte) []byte {
	sum := crc32.ChecksumIEEE(b)
	return append(slices.Clone(b), byte(sum), byte(sum>>8), byte(sum>>16), byte(sum>>24))
}

// written is a frame, and its text without the sum.
type written struct {
	f api.Frame
	b []byte
}

// examples are frames with their texts, byte by byte.
func examples() []written {
	neg := []bool{true, false, true}
	return []written{
		{frame.Ack(3, 300), text(1, 2, 3, 172, 2)},
		{frame.Ack(0, 0), text(1, 2, 0, 0)},
		{frame.Ack(63, 127), text(1, 2, 63, 127)},
		{frame.Ack(1, 128), text(1, 2, 1, 128, 1)},
		{frame.Ack(63, 1<<30), text(1, 2, 63, 128, 128, 128, 128, 4)},
		{data(1, 2, dense(-1, 64)), text(1, 1, 1, 2, 0, 2, 1, 128, 1)},
		{data(0, 0, dense(0)), text(1, 1, 0, 0, 0, 1, 0)},
		{data(0, 0, dense(-64)), text(1, 1, 0, 0, 0, 1, 127)},
		{data(63, 1<<30, dense(63, -65)), text(1, 1, 63, 128, 128, 128, 128, 4, 0, 2, 126, 129, 1)},
		{data(0, 0, dense(math.MaxInt64)), text(1, 1, 0, 0, 0, 1, 254, 255, 255, 255, 255, 255, 255, 255, 255, 1)},
		{data(0, 0, dense(math.MinInt64)), text(1, 1, 0, 0, 0, 1, 255, 255, 255, 255, 255, 255, 255, 255, 255, 1)},
		{data(0, 0, dense(many(4096, int64(1))...)), append(text(1, 1, 0, 0, 0, 128, 32), many(4096, byte(2))...)},
		{data(63, 0, places(9, list(1, 5), 7, -7)), text(1, 1, 63, 0, 1, 9, 2, 1, 3, 14, 13)},
		{data(0, 0, places(4, nil)), text(1, 1, 0, 0, 1, 4, 0)},
		{data(0, 0, places(1, list(0), 0)), text(1, 1, 0, 0, 1, 1, 1, 0, 0)},
		{data(0, 5, places(4096, list(4095), 1)), text(1, 1, 0, 5, 1, 128, 32, 1, 255, 31, 2)},
		{data(0, 5, places(200, list(0, 199), 1, 300)), text(1, 1, 0, 5, 1, 200, 1, 2, 0, 198, 1, 2, 216, 4)},
		{data(0, 0, levels(200, 2, neg, 3, 0, 1)), text(1, 1, 0, 0, 2, 3, 200, 1, 2, 0b10010100, 0b10100000)},
		{data(0, 0, levels(0, 1, neg, 0, 1, 1)), text(1, 1, 0, 0, 2, 3, 0, 1, 0b01100000, 0b10100000)},
		{data(0, 0, levels(5, 8, []bool{false}, 255)), text(1, 1, 0, 0, 2, 1, 5, 8, 255, 0)},
		{data(0, 0, levels(5, 4, many(2, true), 0b1100, 0b1010)), text(1, 1, 0, 0, 2, 2, 5, 4, 0b11100100, 0b11000000)},
		{data(0, 0, levels(5, 4, many(3, false), 1, 1, 1)), text(1, 1, 0, 0, 2, 3, 5, 4, 0b00000000, 0b01110000, 0)},
		{data(0, 0, levels(math.MaxInt64, 1, many(9, true), many(9, uint64(1))...)), text(1, 1, 0, 0, 2, 9, 255, 255, 255, 255, 255, 255, 255, 255, 127, 1, 255, 128, 255, 128)},
		{data(0, 0, signs(5, neg...)), text(1, 1, 0, 0, 3, 3, 5, 0b10100000)},
		{data(2, 1, signs(0, false)), text(1, 1, 2, 1, 3, 1, 0, 0)},
		{data(2, 1, signs(300, append(many(8, true), false)...)), text(1, 1, 2, 1, 3, 9, 172, 2, 255, 0)},
		{data(2, 1, signs(math.MaxInt64, true)), text(1, 1, 2, 1, 3, 1, 255, 255, 255, 255, 255, 255, 255, 255, 127, 128)},
	}
}

// checkWritten tells when a frame's text, its size, its vector's body, or what is read of it, is not as it is to be.
func checkWritten(t *testing.T, x written) {
	t.Helper()
	want := sealed(x.b...)
	if b, e := frame.Write(x.f); !bytes.Equal(b, want) || e != api.OK {
		t.Errorf("Write of %v: got %v, %d, not %v", brief(x.f.S), briefly(b), e, briefly(want))
	}
	if n, e := frame.Size(x.f); n != len(want) || e != api.OK {
		t.Errorf("Size of %v: got %d, %d, not %d", brief(x.f.S), n, e, len(want))
	}
	if f, e := frame.Read(want); !equalFrames(f, x.f) || e != api.OK {
		t.Errorf("Read of %v: got %d, %d, %d, %v, %d", briefly(x.b), f.Kind, f.From, f.Step, brief(f.S), e)
	}
	if x.f.Kind != api.DataK {
		return
	}
	if b, e := frame.Body(x.f.S); !bytes.HasSuffix(x.b, b) || len(b) != len(x.b)-2-len(septets(x.f.From))-len(septets(x.f.Step)) || e != api.OK {
		t.Errorf("Body of %v: got %v, %d", brief(x.f.S), briefly(b), e)
	}
}

// P7.2, P7.3: examples, written and read.
func TestExamples(t *testing.T) {
	for _, x := range examples() {
		checkWritten(t, x)
	}
}

// P7.2: the bodies of some vectors.
func TestBody(t *testing.T) {
	for _, x := range []struct {
		s    api.Sent
		want []byte
	}{
		{dense(-1, 64), text(0, 2, 1, 128, 1)},
		{places(9, list(1, 5), 7, -7), text(1, 9, 2, 1, 3, 14, 13)},
		{places(300, nil), text(1, 172, 2, 0)},
		{levels(200, 2, []bool{true, false, true}, 3, 0, 1), text(2, 3, 200, 1, 2, 0b10010100, 0b10100000)},
		{signs(5, true, false, true), text(3, 3, 5, 0b10100000)},
	} {
		if got, e := frame.Body(x.s); !bytes.Equal(got, x.want) || e != api.OK {
			t.Errorf("Body of %v: got %v, %d, not %v", x.s, got, e, x.want)
		}
	}
}

// P7.2: the longest text there is, of a vector of all places, has room.
func TestLongestText(t *testing.T) {
	f := data(63, 1<<30, places(4096, upTo(4096), many(4096, int64(math.MinInt64))...))
	const want = 2 + 1 + 5 + 1 + 2 + 2 + 4096 + 4096*10 + 4
	b, e := frame.Write(f)
	if n, e := frame.Size(f); n != want || e != api.OK {
		t.Errorf("Size: got %d, %d", n, e)
	}
	if got, e2 := frame.Read(b); e != api.OK || e2 != api.OK || len(b) != want || !equalFrames(got, f) {
		t.Errorf("got %d bytes, %d, %d", len(b), e, e2)
	}
}

// checkRead tells when a text is not told with an error.
func checkRead(t *testing.T, call string, b []byte, want api.Errno) {
	t.Helper()
	if f, e := frame.Read(b); e != want || !equalFrames(f, api.Frame{}) {
		t.Errorf("%s: Read of %v: got %d, %d, %d, %v, %d, not %d", call, briefly(b), f.Kind, f.From, f.Step, brief(f.S), e, want)
	}
}

// P7.3: crc.Open's errors, ahead of ErrForm.
func TestReadOpens(t *testing.T) {
	checkRead(t, "nothing", nil, api.ErrShort)
	checkRead(t, "nothing", text(), api.ErrShort)
	checkRead(t, "three bytes", text(1, 2, 3), api.ErrShort)
	checkRead(t, "three bytes of a frame", text(1, 2, 0), api.ErrShort)
	checkRead(t, "no sum", text(1, 2, 0, 0), api.ErrSum)
	checkRead(t, "no sum", text(1, 2, 0, 0, 0), api.ErrSum)
	checkRead(t, "another sum", append(text(1, 2, 3, 172, 2), 0, 0, 0, 0), api.ErrSum)
	checkRead(t, "another sum of what is none", text(9, 9, 9, 9, 9), api.ErrSum)
	checkRead(t, "too long", many(65537, byte(0)), api.ErrLong)
	checkRead(t, "too long", sealed(append(text(1, 2, 0, 0), many(65536-7, byte(0))...)...), api.ErrLong)
	checkRead(t, "too long, with a frame ahead", append(sealed(1, 2, 0, 0), many(70000, byte(0))...), api.ErrLong)
	checkRead(t, "as long as can be, no sum", many(65536, byte(1)), api.ErrSum)
	checkRead(t, "as long as can be", sealed(append(text(1, 2, 0, 0), many(65536-8, byte(0))...)...), api.ErrForm)
	for _, x := range examples() {
		b := sealed(x.b...)
		checkRead(t, "without the last byte", b[:len(b)-1], api.ErrSum)
		checkRead(t, "with one more", append(slices.Clone(b), 0), api.ErrSum)
		checkRead(t, "with another one's sum", append(slices.Clone(x.b), sealed(append(slices.Clone(x.b), 0)...)[len(x.b)+1:]...), api.ErrSum)
	}
}

// around are the codes of numbers that go beyond an int, or look like others when bits are left away.
func around() [][]byte {
	var l [][]byte
	for _, n := range []uint64{1 << 31, 1 << 32, 1<<32 + 1, 1 << 62, 1 << 63, 1<<63 + 1, math.MaxInt64, math.MaxUint64, math.MaxUint64 - 1} {
		l = append(l, septets(n))
	}
	return l
}

// noForms are texts, without a sum, that are no frame's.
func noForms() map[string][][]byte {
	l := map[string][][]byte{
		"too short":                     {nil, {1}, {1, 2}, {1, 2, 0}, {1, 1}, {1, 1, 0}, {1, 1, 0, 0}, {1, 1, 0, 0, 0}, {1, 2, 128}, {1, 2, 0, 128}, {1, 2, 3, 172}},
		"another mark":                  {{0, 2, 0, 0}, {2, 2, 0, 0}, {129, 2, 0, 0}, {255, 2, 0, 0}, {0, 1, 0, 0, 0, 1, 0}, {2, 1, 0, 0, 0, 1, 0}},
		"no kind":                       {{1, 0, 0, 0}, {1, 3, 0, 0}, {1, 4, 0, 0}, {1, 129, 0, 0}, {1, 130, 0, 0}, {1, 255, 0, 0}, {1, 0, 0, 0, 0, 1, 0}, {1, 3, 0, 0, 0, 1, 0}},
		"no worker":                     {{1, 2, 64, 0}, {1, 2, 65, 0}, {1, 2, 127, 0}, {1, 2, 128, 1, 0}, {1, 1, 64, 0, 0, 1, 0}},
		"no step":                       {{1, 2, 0, 129, 128, 128, 128, 4}, {1, 2, 0, 128, 128, 128, 128, 8}, {1, 1, 0, 129, 128, 128, 128, 4, 0, 1, 0}},
		"longer codes than can be":      {{1, 2, 128, 0, 0}, {1, 2, 0, 128, 0}, {1, 2, 131, 0, 5}, {1, 1, 0, 0, 0, 129, 0, 0}, {1, 1, 0, 0, 0, 1, 128, 0}, {1, 1, 0, 0, 1, 4, 128, 0}, {1, 1, 0, 0, 1, 4, 1, 129, 0, 2}, {1, 1, 0, 0, 3, 1, 128, 0, 0}, {1, 1, 0, 0, 2, 1, 133, 0, 1, 0, 0}, {1, 1, 0, 0, 3, 9, 133, 0}, {1, 1, 0, 0, 3, 16, 128, 0}},
		"codes of more than 64 bits":    {{1, 2, 0, 128, 128, 128, 128, 128, 128, 128, 128, 128, 2}, {1, 1, 0, 0, 0, 1, 255, 255, 255, 255, 255, 255, 255, 255, 255, 3}, {1, 1, 0, 0, 0, 1, 255, 255, 255, 255, 255, 255, 255, 255, 255, 255, 1}},
		"more behind":                   {{1, 2, 0, 0, 0}, {1, 2, 0, 0, 0, 1, 0}, {1, 2, 3, 172, 2, 1}, {1, 1, 0, 0, 0, 1, 0, 0}, {1, 1, 0, 0, 1, 4, 0, 0}, {1, 1, 0, 0, 3, 1, 0, 0, 0}, {1, 1, 0, 0, 2, 1, 0, 1, 0, 0, 0}},
		"a vector behind what has none": {{1, 2, 0, 0, 0, 1, 0}, {1, 2, 0, 0, 1, 4, 0}, {1, 2, 0, 0, 0, 0}},
		"no scheme":                     {{1, 1, 0, 0, 4, 1, 0}, {1, 1, 0, 0, 4, 1}, {1, 1, 0, 0, 5, 1}, {1, 1, 0, 0, 255, 1}, {1, 1, 0, 0, 128, 1, 0}, {1, 1, 0, 0, 131, 1, 0, 0}, {1, 1, 0, 0, 4, 0}},
		"no dimension":                  {{1, 1, 0, 0, 0, 0}, {1, 1, 0, 0, 1, 0, 0}, {1, 1, 0, 0, 1, 0}, {1, 1, 0, 0, 2, 0, 5, 1}, {1, 1, 0, 0, 3, 0, 5}, {1, 1, 0, 0, 1, 129, 32, 0}, {1, 1, 0, 0, 0}},
		"dense, not as many":            {{1, 1, 0, 0, 0, 1}, {1, 1, 0, 0, 0, 2, 0}, {1, 1, 0, 0, 0, 1, 0, 0}, {1, 1, 0, 0, 0, 1, 128}, {1, 1, 0, 0, 0, 255, 31, 0, 0}},
		"no places":                     {{1, 1, 0, 0, 1, 4}, {1, 1, 0, 0, 1, 4, 1, 4, 2}, {1, 1, 0, 0, 1, 4, 2, 3, 0, 2, 2}, {1, 1, 0, 0, 1, 4, 2, 0, 3, 2, 2}, {1, 1, 0, 0, 1, 4, 5, 0, 0, 0, 0, 0, 2, 2, 2, 2, 2}, {1, 1, 0, 0, 1, 4, 1}},
		"places, not as many":           {{1, 1, 0, 0, 1, 4, 1, 0}, {1, 1, 0, 0, 1, 4, 2, 0, 0, 2}, {1, 1, 0, 0, 1, 4, 1, 0, 2, 2}, {1, 1, 0, 0, 1, 4, 0, 2}},
		"no width":                      {{1, 1, 0, 0, 2, 1, 5, 0, 0}, {1, 1, 0, 0, 2, 1, 5, 0}, {1, 1, 0, 0, 2, 1, 5, 0, 0, 0}, {1, 1, 0, 0, 2, 1, 5, 9, 0, 0}, {1, 1, 0, 0, 2, 1, 5, 9, 0, 0, 0}, {1, 1, 0, 0, 2, 1, 5, 33, 0, 0, 0, 0, 0, 0}, {1, 1, 0, 0, 2, 1, 5, 255, 0}, {1, 1, 0, 0, 2, 1, 5, 129, 0, 0}, {1, 1, 0, 0, 2, 8, 5, 16, 0, 0, 0, 0, 0, 0, 0, 0, 0, 0, 0, 0, 0, 0, 0, 0, 0}},
		"levels, not as many":           {{1, 1, 0, 0, 2, 1}, {1, 1, 0, 0, 2, 1, 5}, {1, 1, 0, 0, 2, 1, 5, 1}, {1, 1, 0, 0, 2, 1, 5, 1, 0}, {1, 1, 0, 0, 2, 9, 5, 1, 0, 0}, {1, 1, 0, 0, 2, 9, 5, 1, 0, 0, 0}, {1, 1, 0, 0, 2, 1, 5, 1, 0, 0, 0}},
		"signs, not as many":            {{1, 1, 0, 0, 3, 1}, {1, 1, 0, 0, 3, 1, 5}, {1, 1, 0, 0, 3, 9, 5, 0}, {1, 1, 0, 0, 3, 8, 5, 0, 0}},
		"bits left that are not 0":      {{1, 1, 0, 0, 3, 3, 5, 0b10110000}, {1, 1, 0, 0, 3, 3, 5, 1}, {1, 1, 0, 0, 3, 9, 5, 255, 64}, {1, 1, 0, 0, 2, 1, 5, 1, 64, 0}, {1, 1, 0, 0, 2, 1, 5, 1, 0, 64}, {1, 1, 0, 0, 2, 1, 5, 7, 1, 0}, {1, 1, 0, 0, 2, 3, 200, 1, 2, 0b10010101, 0b10100000}},
		"scales beyond a signed number": {append(append(text(1, 1, 0, 0, 3, 1), septets(uint64(1<<63))...), 0), append(append(text(1, 1, 0, 0, 2, 1), septets(uint64(1<<63))...), 1, 0, 0), append(append(text(1, 1, 0, 0, 3, 1), septets(uint64(math.MaxUint64))...), 128), append(append(text(1, 1, 0, 0, 2, 1), septets(uint64(math.MaxUint64))...), 1, 0, 0)},
	}
	for _, code := range around() {
		l["numbers far beyond"] = append(l["numbers far beyond"],
			slices.Concat(text(1, 2), code, text(0)), slices.Concat(text(1, 2, 0), code), slices.Concat(text(1, 1, 0), code, text(0, 1, 0)),
			slices.Concat(text(1, 1, 0, 0, 0), code, text(0)), slices.Concat(text(1, 1, 0, 0, 1), code, text(0)), slices.Concat(text(1, 1, 0, 0, 1), code, text(1, 0, 2)),
			slices.Concat(text(1, 1, 0, 0, 2), code, text(5, 1, 0, 0)), slices.Concat(text(1, 1, 0, 0, 3), code, text(5, 0)),
			slices.Concat(text(1, 1, 0, 0, 1, 4), code, text(0, 2)), slices.Concat(text(1, 1, 0, 0, 1, 4, 1), code, text(2)))
	}
	return l
}

// P7.3: ErrForm of what is no frame's text, though its sum is right.
func TestReadForms(t *testing.T) {
	for call, l := range noForms() {
		for _, b := range l {
			checkRead(t, call, sealed(b...), api.ErrForm)
		}
	}
}

// P7.3: vectors of one number too many are none, however they are written.
func TestReadDimensions(t *testing.T) {
	dim := text(129, 32)
	for call, b := range map[string][]byte{
		"dense":  append(slices.Concat(text(1, 1, 0, 0, 0), dim), many(4097, byte(0))...),
		"places": append(slices.Concat(text(1, 1, 0, 0, 1), dim), 0),
		"levels": append(slices.Concat(text(1, 1, 0, 0, 2), dim, text(5, 1)), many(2*513, byte(0))...),
		"signs":  append(slices.Concat(text(1, 1, 0, 0, 3), dim, text(5)), many(513, byte(0))...),
	} {
		checkRead(t, call, sealed(b...), api.ErrForm)
	}
}

// septets are a number's code as the words tell it: seven bits in each byte, the lowest first.
func septets[N int | int64 | uint64](number N) []byte {
	var b []byte
	for n := uint64(number); ; n /= 128 {
		if n < 128 {
			return append(b, byte(n))
		}
		b = append(b, byte(n%128)+128)
	}
}
