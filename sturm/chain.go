package sturm

import (
	"dspcompiler/api"
	"dspcompiler/poly"
	"dspcompiler/rational"
)

// chain is Sturm's chain of a polynomial that is not zero, each element times a positive number: the polynomial, its derivative, and then always the negated remainder of the two elements before, as long as it is not zero.
type chain []api.Poly

func chainOf(p api.Poly) chain {
	var list chain
	a, b := primitive(p), primitive(poly.Derivative(p))
	for ; len(b) > 0; a, b = b, primitive(negatedRemainder(a, b)) {
		list = append(list, a)
	}
	return append(list, a)
}

// variations returns the number of changes of the sign in the chain behind x. From one number to a greater one it falls by the number of different roots that are greater than the first and at most the second one: behind a number there is no root, also where it is a multiple root itself.
func (c chain) variations(x api.Rat) int {
	return changes(c, func(p api.Poly) int { return signAfter(p, x) })
}

// changes returns the number of changes of the sign in a list, in which zeros do not count.
func changes[T any](list []T, sign func(x T) int) int {
	last, count := 0, 0
	for _, x := range list {
		s := sign(x)
		if s == -last && s != 0 {
			count++
		}
		if s != 0 {
			last = s
		}
	}
	return count
}

// negatedRemainder returns a positive multiple of the negated remainder of a and b, lists of integers; b does not end with 0.
func negatedRemainder(a, b api.Poly) api.Poly {
	top := b[len(b)-1]
	for len(a) >= len(b) {
		// Both are multiplied by the sign of top, so that a is multiplied by a positive number.
		factor, weight := rational.Abs(top), a[len(a)-1]
		if rational.Sign(top) < 0 {
			weight = rational.Neg(weight)
		}
		a = withoutLast(a, b, factor, weight)
	}
	return poly.Scale(a, rational.Of(-1))
}

// withoutLast returns a times factor less b times weight, where b is shifted so that it removes the last coefficient of a.
func withoutLast(a, b api.Poly, factor, weight api.Rat) api.Poly {
	shift := len(a) - len(b)
	list := make(api.Poly, len(a)-1)
	for i := range list {
		list[i] = rational.Mul(a[i], factor)
		if i >= shift {
			list[i] = rational.Sub(list[i], rational.Mul(b[i-shift], weight))
		}
	}
	return list
}

// primitive returns the positive multiple of p whose coefficients are integers without a common divisor. With other multiples the remainders would grow very fast.
func primitive(p api.Poly) api.Poly {
	p = p[:poly.Degree(p)+1]
	if len(p) == 0 {
		return nil
	}
	divisor := rational.Abs(p[len(p)-1])
	for _, c := range p {
		divisor = common(c, divisor)
	}
	list := make(api.Poly, len(p))
	for i, c := range p {
		list[i], _ = rational.Div(c, divisor)
	}
	return list
}

// common returns the greatest number of which a and b, which is positive, are integer multiples.
func common(a, b api.Rat) api.Rat {
	// If a / b is n / d in lowest terms, a is n times b / d, and b is d times b / d.
	ratio, _ := rational.Div(a, b)
	divisor, _ := rational.Div(b, api.Rat{Num: api.Int{Mag: ratio.Den}, Den: []uint32{1}})
	return divisor
}
