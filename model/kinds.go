package model

import (
	"thrum/api"
	"thrum/linear"
	"thrum/mlp"
	"thrum/soft"
)

// kind is a model that knows of which kind it is.
type kind interface {
	// may tells whether it has what its kind has, and nothing else; all others are asked of a model that may be.
	may() bool
	dim() (int, api.Errno)
	fits(w []int64, l ...api.Sample) api.Errno
	// tell and grad are asked of as many numbers as it has, grad of samples that fit, too.
	tell(w, x []int64) ([]int64, api.Errno)
	grad(w []int64, l ...api.Sample) ([]int64, api.Errno)
}

// line, classes and layers are models of one kind each.
type (
	line    api.Model
	classes api.Model
	layers  api.Model
)

// kinds is a model as one of each kind.
func kinds(m api.Model) map[int]kind {
	return map[int]kind{
		api.LinearM: line(m),
		api.SoftM:   classes(m),
		api.MlpM:    layers(m),
	}
}

// find is a model as one of its own kind, if it may be.
func find(m api.Model) (kind, api.Errno) {
	k, is := kinds(m)[m.Kind]
	if !is || !within(m.In, 1, api.MaxIn) || !within(m.Frac, 0, api.MaxFrac) || !k.may() {
		return nil, api.ErrArg
	}
	return k, api.OK
}

// within tells whether n is one of least to most.
func within(n, least, most int) bool {
	return n >= least && n <= most
}

func (m line) may() bool { return m.Out == 0 && m.Hid == 0 }

func (m line) dim() (int, api.Errno) { return linear.Dim(m.In) }

func (m line) fits(w []int64, l ...api.Sample) api.Errno { return linear.Check(m.In, w, l...) }

func (m line) tell(w, x []int64) ([]int64, api.Errno) { return one(linear.Tell(w, x, m.Frac)) }

func (m line) grad(w []int64, l ...api.Sample) ([]int64, api.Errno) {
	return linear.Grad(w, m.Frac, l...)
}

func (m classes) may() bool { return within(m.Out, 2, api.MaxOut) && m.Hid == 0 }

func (m classes) dim() (int, api.Errno) { return soft.Dim(m.In, m.Out) }

func (m classes) fits(w []int64, l ...api.Sample) api.Errno {
	return soft.Check(m.In, m.Out, w, l...)
}

func (m classes) tell(w, x []int64) ([]int64, api.Errno) { return soft.Tell(m.Out, w, x, m.Frac) }

func (m classes) grad(w []int64, l ...api.Sample) ([]int64, api.Errno) {
	return soft.Grad(m.Out, w, m.Frac, l...)
}

func (m layers) may() bool { return m.Out == 0 && within(m.Hid, 1, api.MaxHid) }

func (m layers) dim() (int, api.Errno) { return mlp.Dim(m.In, m.Hid) }

func (m layers) fits(w []int64, l ...api.Sample) api.Errno { return mlp.Check(m.In, m.Hid, w, l...) }

func (m layers) tell(w, x []int64) ([]int64, api.Errno) { return one(mlp.Tell(m.Hid, w, x, m.Frac)) }

func (m layers) grad(w []int64, l ...api.Sample) ([]int64, api.Errno) {
	return mlp.Grad(m.Hid, w, m.Frac, l...)
}

// one is a list of one number, if there is no error.
func one(number int64, e api.Errno) ([]int64, api.Errno) {
	if e != api.OK {
		return nil, e
	}
	return []int64{number}, api.OK
}
