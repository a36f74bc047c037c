package crc_test

import (
	"hash/crc32"
	"sync"
	"testing"

	"thrum/crc"
)

// byteSum is what the chapter's words make of a register that has the bits of one byte alone.
func byteSum(low byte) uint32 {
	register := uint32(low)
	for range 8 {
		fell := register&1 == 1
		register >>= 1
		if fell {
			register ^= 0xedb88320
		}
	}
	return register
}

// byTable is the sum of a text and b behind it, each byte of which is looked up.
func byTable(sum uint32, b []byte) uint32 {
	register := ^sum
	for _, x := range b {
		register = register>>8 ^ crc.Byte(byte(register)^x)
	}
	return ^register
}

// Words: what the table tells of some bytes.
func TestByte(t *testing.T) {
	for low, want := range map[byte]uint32{0: 0, 1: 0x77073096, 2: 0xee0e612c, 127: 0xc0ba6cad, 128: 0xedb88320, 254: 0x5a05df1b, 255: 0x2d02ef8d} {
		if got := crc.Byte(low); got != want {
			t.Errorf("Byte(%d): got %x, not %x", low, got, want)
		}
	}
}

// Words: what the table tells of all bytes is what the words tell, and another program's table.
func TestByteIsAsElsewhere(t *testing.T) {
	for low := range 256 {
		got := crc.Byte(byte(low))
		if want := byteSum(byte(low)); got != want {
			t.Errorf("Byte(%d): got %x, not %x", low, got, want)
		}
		if want := crc32.IEEETable[low]; got != want {
			t.Errorf("Byte(%d): got %x, elsewhere %x", low, got, want)
		}
	}
}

// P4.1: texts' sums are those that are made by the table, of every length.
func TestSumsAreThoseOfTheTable(t *testing.T) {
	for _, b := range append(texts(), mixed(65536, 1), mixed(65537, 2), mixed(300000, 3)) {
		if got, want := crc.Sum(b...), byTable(0, b); got != want {
			t.Errorf("Sum of %d bytes: got %x, by the table %x", len(b), got, want)
		}
	}
	for n := range uint64(2000) {
		b, sum := mixed(int(n%40), n), uint32(n*0x9e3779b97f4a7c15>>32)
		if got, want := crc.More(sum, b...), byTable(sum, b); got != want {
			t.Errorf("More(%x, %v): got %x, by the table %x", sum, b, got, want)
		}
	}
}

// R5: the table tells the same to however many look at once.
func TestByteSideBySide(t *testing.T) {
	got := make([][256]uint32, 50)
	var all sync.WaitGroup
	for i := range got {
		all.Go(func() {
			for low := range got[i] {
				got[i][low] = crc.Byte(byte(low))
			}
		})
	}
	all.Wait()
	for i, l := range got {
		if l != *crc32.IEEETable {
			t.Errorf("%d: got %x", i, l)
		}
	}
}
