package poly

import (
	"slices"

	"dspcompiler/api"
	"dspcompiler/rational"
)

// DivMod returns the quotient and the remainder, whose degree is less than that of q; or ErrZero if q is zero.
func DivMod(p, q api.Poly) (api.Poly, api.Poly, api.Errno) {
	f, g := split(p), split(q)
	if len(g.list) == 0 {
		return nil, nil, api.ErrZero
	}
	quotient, rest, scale := divide(f.list, g.list)
	over := rational.Mul(scale, f.over)
	return cleared{times(quotient, g.over), over}.poly(), cleared{rest, over}.poly(), api.OK
}

// divide returns a quotient, a remainder and a scale, all of them integers: a times the scale is the quotient times b, which is not zero, plus the remainder.
func divide(a, b api.Poly) (quotient, rest api.Poly, scale api.Rat) {
	rest, scale = a, rational.Of(1)
	for len(rest) >= len(b) {
		ratio, _ := rational.Div(rest[len(rest)-1], b[len(b)-1])
		weight, factor := terms(ratio)
		quotient = append(times(quotient, factor), weight)
		rest = withoutLast(rest, b, weight, factor)
		scale = rational.Mul(scale, factor)
	}
	slices.Reverse(quotient)
	return quotient, short(rest), scale
}

// withoutLast returns a times factor less b times weight, where b is shifted so that its last coefficient removes that of a.
func withoutLast(a, b api.Poly, weight, factor api.Rat) api.Poly {
	list := times(a[:len(a)-1], factor)
	shift := len(a) - len(b)
	for i, c := range b[:len(b)-1] {
		list[shift+i] = rational.Sub(list[shift+i], rational.Mul(c, weight))
	}
	return list
}

// Gcd returns the monic greatest common divisor of p and q, which is zero if both are.
func Gcd(p, q api.Poly) api.Poly {
	a, b := primitive(short(p)), primitive(short(q))
	if isCoprime(a, b) {
		return api.Poly{rational.Of(1)}
	}
	for len(b) > 0 {
		_, rest, _ := divide(a, b)
		a, b = b, primitive(rest)
	}
	return Monic(a)
}

// primitive returns a multiple of p, whose last coefficient is not 0: integers without a common divisor. With other multiples the remainders of Euclid's algorithm would grow very fast.
func primitive(p api.Poly) api.Poly {
	if len(p) == 0 {
		return nil
	}
	divisor := p[len(p)-1]
	for _, c := range p {
		divisor = common(c, divisor)
	}
	return divided(p, divisor)
}

// common returns the greatest number of which a and b, which is not 0, are integer multiples; it has the sign of b.
func common(a, b api.Rat) api.Rat {
	// If a / b is n / d in lowest terms, a is n times b / d, and b is d times b / d.
	ratio, _ := rational.Div(a, b)
	divisor, _ := rational.Div(b, whole(ratio.Den))
	return divisor
}

// Monic returns p divided by its leading coefficient, and zero for zero.
func Monic(p api.Poly) api.Poly {
	p = short(p)
	if len(p) == 0 {
		return nil
	}
	return divided(p, p[len(p)-1])
}

// Derivative returns the derivative of p.
func Derivative(p api.Poly) api.Poly {
	var list api.Poly
	for i, c := range short(p) {
		if i > 0 {
			list = append(list, rational.Mul(c, rational.Of(i)))
		}
	}
	return list
}

// Squarefree returns the monic polynomial that has the roots of p, each of them once, and zero for zero.
func Squarefree(p api.Poly) api.Poly {
	// The roots of p are those of the divisor with a multiplicity that is less by one. Zero has no quotient, and so stays zero.
	quotient, _, _ := DivMod(p, Gcd(p, Derivative(p)))
	return Monic(quotient)
}
