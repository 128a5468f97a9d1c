package chebyshev

import (
	"dspcompiler/api"
	"dspcompiler/poly"
	"dspcompiler/rational"
)

// Amplitude returns the amplitude of a symmetric sequence; or ErrArg if the number of elements is even, ErrDegree if there are too many, or ErrOrder if it is not symmetric.
func Amplitude(h []api.Rat) (api.Poly, api.Errno) {
	switch {
	case len(h)%2 == 0:
		return nil, api.ErrArg
	case len(h) > 2*api.MaxDegree+1:
		return nil, api.ErrDegree
	case !isSymmetric(h):
		return nil, api.ErrOrder
	}
	return FromBasis(folded(h, len(h)/2))
}

func isSymmetric(h []api.Rat) bool {
	for i, x := range h {
		if rational.Compare(x, h[len(h)-1-i]) != 0 {
			return false
		}
	}
	return true
}

// Taps returns the symmetric sequence of 2n + 1 numbers with the amplitude p; or ErrArg if n is not from 0 to MaxDegree, or ErrDegree if the degree of p is greater than n.
func Taps(p api.Poly, n int) ([]api.Rat, api.Errno) {
	switch {
	case n < 0 || n > api.MaxDegree:
		return nil, api.ErrArg
	case poly.Degree(p) > n:
		return nil, api.ErrDegree
	}
	c := ToBasis(p)
	var h []api.Rat
	for i := range 2*n + 1 {
		h = append(h, tap(c, max(i-n, n-i)))
	}
	return h, api.OK
}

// tap returns the element at a distance from the middle of the sequence, whose amplitude has the coefficients c of the Chebyshev polynomials.
func tap(c []api.Rat, distance int) api.Rat {
	if distance == 0 {
		return rational.Trim(at(c, 0))
	}
	return rational.Mul(at(c, distance), rational.Frac(1, 2))
}

// folded returns the element in the middle of a list, and then the sums of the two elements at each distance from it.
func folded(list []api.Rat, middle int) []api.Rat {
	sums := []api.Rat{at(list, middle)}
	for k := 1; k <= max(middle, len(list)-1-middle); k++ {
		sums = append(sums, rational.Add(at(list, middle+k), at(list, middle-k)))
	}
	return sums
}

// at returns the element with an index, which is 0 outside the list.
func at(list []api.Rat, i int) api.Rat {
	if i < 0 || i >= len(list) {
		return api.Rat{}
	}
	return list[i]
}
