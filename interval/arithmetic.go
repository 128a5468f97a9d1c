package interval

import (
	"dspcompiler/api"
	"dspcompiler/rational"
)

// Add returns the interval of the sums of a number of a and a number of b.
func Add(a, b api.Interval) api.Interval {
	aLo, aHi := ends(a)
	bLo, bHi := ends(b)
	return api.Interval{Lo: rational.Add(aLo, bLo), Hi: rational.Add(aHi, bHi)}
}

// Sub returns the interval of the differences of a number of a and a number of b.
func Sub(a, b api.Interval) api.Interval {
	aLo, aHi := ends(a)
	bLo, bHi := ends(b)
	return api.Interval{Lo: rational.Sub(aLo, bHi), Hi: rational.Sub(aHi, bLo)}
}

// Mul returns the interval of the products of a number of a and a number of b.
func Mul(a, b api.Interval) api.Interval {
	// A product is monotonic in each factor, so the least and the greatest one are among those of the ends.
	products := [4]api.Rat{
		rational.Mul(a.Lo, b.Lo), rational.Mul(a.Lo, b.Hi),
		rational.Mul(a.Hi, b.Lo), rational.Mul(a.Hi, b.Hi),
	}
	return span(products[:])
}

// Square returns the interval of the squares of the numbers of a. It is narrower than the product of a and a if a has numbers of both signs.
func Square(a api.Interval) api.Interval {
	squares := [2]api.Rat{rational.Mul(a.Lo, a.Lo), rational.Mul(a.Hi, a.Hi)}
	square := span(squares[:])
	if Sign(a) == 0 {
		square.Lo = rational.Of(0)
	}
	return square
}

// Div returns the interval of the quotients of a number of a and a number of b, or ErrZero if b contains 0.
func Div(a, b api.Interval) (api.Interval, api.Errno) {
	if Sign(b) == 0 {
		return api.Interval{}, api.ErrZero
	}
	one := rational.Of(1)
	// The ends of b are not 0, because b does not contain it.
	first, _ := rational.Div(one, b.Lo)
	second, _ := rational.Div(one, b.Hi)
	return Mul(a, api.Interval{Lo: first, Hi: second}), api.OK
}
