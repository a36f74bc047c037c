package press

import (
	"slices"

	"thrum/api"
	"thrum/quant"
	"thrum/sign"
	"thrum/topk"
	"thrum/vec"
)

// way is what is done with vectors of a scheme. All but may are asked of what has been checked: of a way that may be for the vector, and of a pressed vector of the scheme that may be.
type way struct {
	// may tells whether a way may be for a dimension that may be.
	may    func(h api.How, dim int) bool
	press  func(h api.How, v []int64, seed uint64, n ...int) (api.Sent, api.Errno)
	loosen func(s api.Sent) ([]int64, api.Errno)
	// is tells whether a vector is pressed so.
	is func(h api.How, v []int64, s api.Sent) bool
}

// ways is what is done with vectors, scheme by scheme.
func ways() map[int]way {
	return map[int]way{
		api.DenseS: {may: mayBare, press: pressDense, loosen: loosenDense, is: isDense},
		api.TopS:   {may: mayTop, press: pressTop, loosen: loosenTop, is: isTop},
		api.LevelS: {may: mayLevel, press: pressLevel, loosen: quant.Loosen, is: isLevel},
		api.SignS:  {may: mayBare, press: pressSign, loosen: sign.Loosen, is: isSign},
	}
}

func mayBare(h api.How, _ int) bool {
	return h.K == 0 && h.Wide == 0
}

func mayTop(h api.How, dim int) bool {
	return h.K >= 0 && h.K <= dim && h.Wide == 0
}

func mayLevel(h api.How, _ int) bool {
	return h.K == 0 && h.Wide >= 1 && h.Wide <= api.MaxWide
}

func pressDense(_ api.How, v []int64, _ uint64, _ ...int) (api.Sent, api.Errno) {
	return api.Sent{Scheme: api.DenseS, Dim: len(v), V: slices.Clone(v)}, api.OK
}

func pressTop(h api.How, v []int64, _ uint64, _ ...int) (api.Sent, api.Errno) {
	return topk.Press(h.K, v...)
}

func pressLevel(h api.How, v []int64, seed uint64, n ...int) (api.Sent, api.Errno) {
	return quant.Press(v, h.Wide, seed, n...)
}

func pressSign(_ api.How, v []int64, _ uint64, _ ...int) (api.Sent, api.Errno) {
	return sign.Press(v...)
}

func loosenDense(s api.Sent) ([]int64, api.Errno) {
	return slices.Clone(s.V), api.OK
}

func loosenTop(s api.Sent) ([]int64, api.Errno) {
	v := make([]int64, s.Dim)
	for i, at := range s.L {
		v[at] = s.V[i]
	}
	return v, api.OK
}

func isDense(_ api.How, v []int64, s api.Sent) bool {
	return vec.Same(s.V, v)
}

func isTop(h api.How, v []int64, s api.Sent) bool {
	return topk.Is(h.K, v, s)
}

func isLevel(h api.How, v []int64, s api.Sent) bool {
	return s.Wide == h.Wide && quant.Near(v, s)
}

func isSign(_ api.How, v []int64, s api.Sent) bool {
	return sign.Is(v, s)
}
