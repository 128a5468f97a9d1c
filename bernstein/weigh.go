package bernstein

import (
	"slices"

	"dspcompiler/api"
	"dspcompiler/interval"
	"dspcompiler/poly"
	"dspcompiler/rational"
)

// weigh returns the Bernstein coefficients of p on the interval, each times its binomial coefficient and the scale, which is positive. All these numbers are integers.
func weigh(p api.Poly, on api.Interval) (weighted []api.Rat, scale api.Rat) {
	list, scale := whole(poly.Trim(p))
	// With x = (Lo + Width t) / factor, both terms are integers.
	terms, factor := whole([]api.Rat{interval.Trim(on).Lo, interval.Width(on)})
	slices.Reverse(list)
	scale = rational.Mul(scale, stretch(list, factor))
	slices.Reverse(list)
	move(list, terms[0])
	stretch(list, terms[1])
	// With t = s / (1 + s), the product of the polynomial and the power of 1 + s has the coefficients that are wanted. In the opposite order, they are those of the powers of 1 / s.
	slices.Reverse(list)
	move(list, rational.Of(1))
	slices.Reverse(list)
	return list, scale
}

// stretch makes the coefficients of a polynomial those for factor x in the place of x. It returns the last power of the factor.
func stretch(list []api.Rat, factor api.Rat) api.Rat {
	power := rational.Of(1)
	for i := range list {
		if i > 0 {
			power = rational.Mul(power, factor)
		}
		list[i] = rational.Mul(list[i], power)
	}
	return power
}

// move makes the coefficients of a polynomial those for x + distance in the place of x.
func move(list []api.Rat, distance api.Rat) {
	for i := range list {
		for j := len(list) - 2; j >= i; j-- {
			list[j] = rational.Add(list[j], rational.Mul(list[j+1], distance))
		}
	}
}

// whole returns integers, the numbers of a list times the least possible factor.
func whole(list []api.Rat) (integers []api.Rat, factor api.Rat) {
	factor = rational.Of(1)
	for _, c := range list {
		factor = rational.Mul(factor, denominator(rational.Mul(c, factor)))
	}
	return times(list, factor), factor
}

func denominator(x api.Rat) api.Rat {
	return api.Rat{Num: api.Int{Mag: x.Den}, Den: []uint32{1}}
}

func times(list []api.Rat, factor api.Rat) []api.Rat {
	var products []api.Rat
	for _, c := range list {
		products = append(products, rational.Mul(c, factor))
	}
	return products
}

// binomials returns n binomial coefficients, which are those of the powers of s in the power of 1 + s.
func binomials(n int) []api.Rat {
	var row []api.Rat
	c := rational.Of(1)
	for i := range n {
		row = append(row, c)
		c = rational.Mul(c, rational.Frac(n-1-i, i+1))
	}
	return row
}
