package poly

import (
	"dspcompiler/api"
	"dspcompiler/rational"
)

// cleared is a polynomial as a list of integers, the last of which is not 0, over a common denominator. Sums and products of integers need no common divisors, in which the arithmetic of fractions spends most of its time.
type cleared struct {
	list api.Poly
	over api.Rat
}

// split returns p as integers over a common denominator.
func split(p api.Poly) cleared {
	p = short(p)
	over := rational.Of(1)
	for _, c := range p {
		// The product is an integer unless its denominator is missing in the common one.
		missing := rational.Mul(over, c).Den
		over = rational.Mul(over, whole(missing))
	}
	return cleared{times(p, over), over}
}

// poly returns the valid Poly of c, in new memory.
func (c cleared) poly() api.Poly {
	return divided(c.list, c.over)
}

// whole returns the number of a natural number, in its memory.
func whole(n []uint32) api.Rat {
	return api.Rat{Num: api.Int{Mag: n}, Den: []uint32{1}}
}

// terms returns the numerator and the denominator of x in lowest terms, as numbers.
func terms(x api.Rat) (num, den api.Rat) {
	x = rational.Trim(x)
	return api.Rat{Num: x.Num, Den: []uint32{1}}, whole(x.Den)
}

// times returns the products of all coefficients with c.
func times(p api.Poly, c api.Rat) api.Poly {
	return each(p, func(x api.Rat) api.Rat { return rational.Mul(x, c) })
}

// divided returns the quotients of all coefficients and c, which is not 0.
func divided(p api.Poly, c api.Rat) api.Poly {
	return each(p, func(x api.Rat) api.Rat {
		quotient, _ := rational.Div(x, c)
		return quotient
	})
}
