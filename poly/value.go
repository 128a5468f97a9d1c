package poly

import (
	"dspcompiler/api"
	"dspcompiler/interval"
	"dspcompiler/rational"
)

// horner takes a step for each coefficient of p, from the highest to the lowest, and returns the last sum.
func horner[Sum any](p api.Poly, sum Sum, step func(sum Sum, c api.Rat) Sum) Sum {
	for i := range len(p) {
		sum = step(sum, p[len(p)-1-i])
	}
	return sum
}

// Eval returns the value of p at x.
func Eval(p api.Poly, x api.Rat) api.Rat {
	f := split(p)
	num, den := terms(x)
	scale := rational.Of(1)
	// The sum stays an integer, because it is multiplied by the denominator of x in each step.
	sum := horner(f.list, rational.Of(0), func(sum, c api.Rat) api.Rat {
		scale = rational.Mul(scale, den)
		return rational.Add(rational.Mul(sum, num), rational.Mul(c, scale))
	})
	value, _ := rational.Div(sum, rational.Mul(scale, f.over))
	return value
}

// Enclose returns an interval that contains the values of p at all numbers of x: what Horner's rule gives with intervals.
func Enclose(p api.Poly, x api.Interval) api.Interval {
	zero := interval.Make(rational.Of(0), rational.Of(0))
	return horner(p, zero, func(sum api.Interval, c api.Rat) api.Interval {
		return interval.Add(interval.Mul(sum, x), api.Interval{Lo: c, Hi: c})
	})
}
