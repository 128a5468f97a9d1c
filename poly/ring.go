package poly

import (
	"dspcompiler/api"
	"dspcompiler/rational"
)

// maxDegree is the greatest degree of a power and of a composition.
const maxDegree = 4 * api.MaxDegree

// Add returns the sum of p and q.
func Add(p, q api.Poly) api.Poly {
	return combined(p, q, rational.Add)
}

// Sub returns the difference of p and q.
func Sub(p, q api.Poly) api.Poly {
	return combined(p, q, rational.Sub)
}

// combined returns the polynomial of the results for the coefficients of equal powers.
func combined(p, q api.Poly, do func(a, b api.Rat) api.Rat) api.Poly {
	list := make(api.Poly, max(len(p), len(q)))
	for i := range list {
		list[i] = do(coefficient(p, i), coefficient(q, i))
	}
	return short(list)
}

// coefficient returns the coefficient of the power i, which is 0 behind the end of p.
func coefficient(p api.Poly, i int) api.Rat {
	if i < len(p) {
		return p[i]
	}
	return api.Rat{}
}

// Mul returns the product of p and q.
func Mul(p, q api.Poly) api.Poly {
	f, g := split(p), split(q)
	return cleared{product(f.list, g.list), rational.Mul(f.over, g.over)}.poly()
}

// product returns the product of lists of integers.
func product(a, b api.Poly) api.Poly {
	if len(a) == 0 || len(b) == 0 {
		return nil
	}
	list := make(api.Poly, len(a)+len(b)-1)
	for i, x := range a {
		for j, y := range b {
			list[i+j] = rational.Add(list[i+j], rational.Mul(x, y))
		}
	}
	return list
}

// Scale returns the product of p and the number c.
func Scale(p api.Poly, c api.Rat) api.Poly {
	return short(times(short(p), c))
}

// Pow returns the n-th power of p, which is 1 for n = 0; or ErrDegree if n is not from 0 to MaxDegree, or the degree of the power would be too great.
func Pow(p api.Poly, n int) (api.Poly, api.Errno) {
	if n < 0 || n > api.MaxDegree || n*Degree(p) > maxDegree {
		return nil, api.ErrDegree
	}
	base := split(p)
	power := api.Poly{rational.Of(1)}
	for range n {
		power = product(power, base.list)
	}
	// MaxPower is greater than MaxDegree, so that this power exists.
	over, _ := rational.Pow(base.over, n)
	return cleared{power, over}.poly(), api.OK
}

// Compose returns p of q; or ErrDegree if its degree would be too great.
func Compose(p, q api.Poly) (api.Poly, api.Errno) {
	outer, inner := Degree(p), Degree(q)
	if outer > 0 && inner > 0 && outer*inner > maxDegree {
		return nil, api.ErrDegree
	}
	f, g := split(p), split(q)
	scale := rational.Of(1)
	// The sum stays a list of integers, because it is multiplied by the denominator of q in each step.
	list := horner(f.list, api.Poly{}, func(sum api.Poly, c api.Rat) api.Poly {
		scale = rational.Mul(scale, g.over)
		return Add(product(sum, g.list), api.Poly{rational.Mul(c, scale)})
	})
	return cleared{list, rational.Mul(scale, f.over)}.poly(), api.OK
}
