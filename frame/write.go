package frame

import (
	"slices"

	"thrum/api"
	"thrum/crc"
	"thrum/index"
	"thrum/leb"
	"thrum/plane"
)

const (
	// mark is the byte that each frame's text begins with.
	mark = 1
	// signWidth is how wide a sign is.
	signWidth = 1
)

// Body is a pressed vector's body.
func Body(s api.Sent) ([]byte, api.Errno) {
	if !May(s) {
		return nil, api.ErrArg
	}
	return vector(s).body(), api.OK
}

// Write is a frame's text.
func Write(f api.Frame) ([]byte, api.Errno) {
	if e := Check(f); e != api.OK {
		return nil, e
	}
	text := leb.Put([]byte{mark, byte(f.Kind)}, uint64(f.From), uint64(f.Step))
	if f.Kind == api.DataK {
		text = append(text, vector(f.S).body()...)
	}
	return crc.Seal(text)
}

// Size is how many bytes a frame's text has.
func Size(f api.Frame) (int, api.Errno) {
	text, e := Write(f)
	return len(text), e
}

// vector is a pressed vector that may be: the layers below have nothing against what is written of it.
type vector api.Sent

// body is a vector's body.
func (v vector) body() []byte {
	bodies := map[int]func() []byte{
		api.DenseS: v.dense,
		api.TopS:   v.top,
		api.LevelS: v.level,
		api.SignS:  v.sign,
	}
	return append(leb.Put([]byte{byte(v.Scheme)}, uint64(v.Dim)), bodies[v.Scheme]()...)
}

func (v vector) dense() []byte {
	return leb.Signed(nil, v.V...)
}

func (v vector) top() []byte {
	places, _ := index.Put(v.Dim, v.L...)
	return leb.Signed(places, v.V...)
}

func (v vector) level() []byte {
	planes, _ := plane.Weave(v.Wide, v.Lev...)
	return slices.Concat(v.scale(), []byte{byte(v.Wide)}, planes, v.signs())
}

func (v vector) sign() []byte {
	return slices.Concat(v.scale(), v.signs())
}

// scale is the scale's code.
func (v vector) scale() []byte {
	return leb.Put(nil, uint64(v.Scale))
}

// signs are which numbers are below 0, in bytes.
func (v vector) signs() []byte {
	signs, _ := plane.Signs(v.Neg...)
	return signs
}
