package bernstein

import (
	"dspcompiler/api"
	"dspcompiler/interval"
	"dspcompiler/rational"
)

// Prove returns a certificate that p is positive on the interval; or ErrDegree if its degree is too great, or ErrProof if the interval would have to be halved too often.
func Prove(p api.Poly, on api.Interval) (api.Sign, api.Errno) {
	if e := checkDegree(p); e != api.OK {
		return api.Sign{}, e
	}
	var cells []api.Interval
	var divide func(x piece, on api.Interval, halvings int) bool
	divide = func(x piece, on api.Interval, halvings int) bool {
		if arePositive(x) {
			// A cell and the one beside it have a number in common, but no memory.
			cells = append(cells, interval.Trim(on))
			return true
		}
		if halvings == 0 {
			return false
		}
		left, right := x.halves()
		mid := interval.Mid(on)
		return divide(left, api.Interval{Lo: on.Lo, Hi: mid}, halvings-1) && divide(right, api.Interval{Lo: mid, Hi: on.Hi}, halvings-1)
	}
	on = interval.Trim(on)
	x, _ := pieceOf(Coefficients(p, on), api.MaxDepth)
	if !divide(x, on, api.MaxDepth) {
		return api.Sign{}, api.ErrProof
	}
	return api.Sign{On: on, Cells: cells}, api.OK
}

// Check returns OK if s proves that p is positive on its interval, ErrDegree if the degree of p is too great, and ErrProof otherwise.
func Check(p api.Poly, s api.Sign) api.Errno {
	if e := checkDegree(p); e != api.OK {
		return e
	}
	if !covers(s.Cells, s.On) {
		return api.ErrProof
	}
	integers, _ := whole(p)
	for _, cell := range s.Cells {
		// The scale is positive, and so are the binomial coefficients.
		if weighted, _ := weigh(integers, cell); !arePositive(weighted) {
			return api.ErrProof
		}
	}
	return api.OK
}

// covers reports whether there are cells, and they lie one beside the other from the lower end of the interval to the upper one.
func covers(cells []api.Interval, on api.Interval) bool {
	on = interval.Trim(on)
	end := on.Lo
	for _, cell := range cells {
		cell = interval.Trim(cell)
		if rational.Compare(cell.Lo, end) != 0 {
			return false
		}
		end = cell.Hi
	}
	return len(cells) > 0 && rational.Compare(end, on.Hi) == 0
}
