package bernstein

import (
	"slices"

	"dspcompiler/api"
	"dspcompiler/rational"
)

// piece is a polynomial on an interval: its Bernstein coefficients there, all of them times the same positive number, which makes them integers.
type piece []api.Rat

// pieceOf returns the piece with the Bernstein coefficients of a list, and the number by which they are multiplied. The degree is at most MaxDegree. The factor is so great that the piece can be halved so many times: integers need no work with denominators.
func pieceOf(list []api.Rat, halvings int) (piece, api.Rat) {
	integers, factor := whole(list)
	twos, _ := rational.Pow(rational.Of(2), max(len(list)-1, 0))
	twos, _ = rational.Pow(twos, halvings)
	return times(integers, twos), rational.Mul(factor, twos)
}

// halves returns the polynomial on both halves of the interval, by de Casteljau's algorithm with sums in the place of means.
func (x piece) halves() (left, right piece) {
	right = slices.Clone(x)
	weight := rational.Of(1)
	for last := len(x) - 1; last >= 0; last-- {
		left = append(left, rational.Mul(right[0], weight))
		for i := range last {
			right[i] = rational.Add(right[i], right[i+1])
		}
		right[last] = rational.Mul(right[last], weight)
		weight = rational.Mul(weight, rational.Frac(1, 2))
	}
	return left, right
}
