package crc

import (
	"bytes"
	"slices"

	"thrum/api"
)

// sumSize is how many bytes a sum has.
const sumSize = 4

// Seal is a text, and its sum behind it.
func Seal(b []byte) ([]byte, api.Errno) {
	if len(b) > api.MaxBytes-sumSize {
		return nil, api.ErrLong
	}
	end := tail(b)
	return slices.Concat(b, end[:]), api.OK
}

// Open is the text ahead of its sum.
func Open(b []byte) ([]byte, api.Errno) {
	switch {
	case len(b) > api.MaxBytes:
		return nil, api.ErrLong
	case len(b) < sumSize:
		return nil, api.ErrShort
	}
	at := len(b) - sumSize
	text := b[:at]
	if tail(text) != [sumSize]byte(b[at:]) {
		return nil, api.ErrSum
	}
	return bytes.Clone(text), api.OK
}

// Turn is a text with one bit turned.
func Turn(b []byte, bit int) ([]byte, api.Errno) {
	// A bit little below 0 would pass for one of the first byte, as quotients go towards 0.
	if bit < 0 || bit/perByte >= len(b) {
		return nil, api.ErrArg
	}
	text := bytes.Clone(b)
	text[bit/perByte] ^= 1 << (bit % perByte)
	return text, api.OK
}

// tail is a text's sum in bytes, the lowest first.
func tail(text []byte) [sumSize]byte {
	var b [sumSize]byte
	sum := Sum(text...)
	for i := range b {
		b[i] = byte(sum >> (perByte * i))
	}
	return b
}
