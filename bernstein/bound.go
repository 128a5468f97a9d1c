package bernstein

import (
	"dspcompiler/api"
	"dspcompiler/interval"
	"dspcompiler/rational"
)

// Bound returns the least interval that contains the Bernstein coefficients of p on all of the 2^depth equal parts of the interval; or ErrArg if depth is out of range, or ErrDegree if the degree of p is too great.
func Bound(p api.Poly, on api.Interval, depth int) (api.Interval, api.Errno) {
	if depth < 0 || depth > api.MaxDepth {
		return api.Interval{}, api.ErrArg
	}
	if e := checkDegree(p); e != api.OK {
		return api.Interval{}, e
	}
	x, factor := pieceOf(Coefficients(p, on), depth)
	if len(x) == 0 {
		return Range(p, on), api.OK
	}
	unit, _ := rational.Div(rational.Of(1), factor)
	return interval.Mul(limits(x, depth), interval.Make(unit, unit)), api.OK
}

// limits returns the least interval that contains all coefficients on the parts of a piece, which is not empty, after so many halvings.
func limits(x piece, halvings int) api.Interval {
	// The values at the ends of a part are coefficients of the least parts, too.
	known := interval.Make(x[0], x[len(x)-1])
	var visit func(x piece, halvings int)
	visit = func(x piece, halvings int) {
		whole := reach(x)
		if interval.Inside(whole, known) {
			// The coefficients on its halves are means of these, and so add nothing.
			return
		}
		if halvings == 0 {
			known = interval.Hull(known, whole)
			return
		}
		left, right := x.halves()
		known = interval.Hull(known, interval.Make(right[0], right[0]))
		visit(left, halvings-1)
		visit(right, halvings-1)
	}
	visit(x, halvings)
	return known
}
