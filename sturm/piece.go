package sturm

import (
	"slices"

	"dspcompiler/api"
	"dspcompiler/interval"
	"dspcompiler/poly"
	"dspcompiler/rational"
)

// piece is a polynomial on an open interval. All coefficients are integers, and may be multiplied by a positive number.
type piece struct {
	on api.Interval
	// The number t goes from 0 to 1 on the interval; the coefficients are those of the powers of t.
	up api.Poly
	// The number s is 1/t - 1, and so goes from 0 at the end of the interval through all positive numbers; the coefficients are those of the powers of s after a multiplication by (1 + s)^n.
	down api.Poly
}

// pieceOf returns p on an interval.
func pieceOf(p api.Poly, on api.Interval) piece {
	// The degree stays the same, so that the composition exists.
	list, _ := poly.Compose(p, api.Poly{on.Lo, interval.Width(on)})
	return newPiece(on, primitive(list))
}

func newPiece(on api.Interval, up api.Poly) piece {
	down := slices.Clone(up)
	slices.Reverse(down)
	return piece{on, up, moved(down)}
}

// moved returns the coefficients for x + 1 in the place of x.
func moved(p api.Poly) api.Poly {
	list := slices.Clone(p)
	for i := range list {
		for j := len(list) - 2; j >= i; j-- {
			list[j] = rational.Add(list[j], list[j+1])
		}
	}
	return list
}

// halves returns the polynomial on both halves of the interval.
func (x piece) halves() (left, right piece) {
	mid := interval.Mid(x.on)
	list := slices.Clone(x.up)
	// With t/2 in the place of t, and a factor 2^n.
	factor := rational.Of(1)
	for i, c := range slices.Backward(list) {
		list[i] = rational.Mul(c, factor)
		factor = rational.Add(factor, factor)
	}
	return newPiece(api.Interval{Lo: x.on.Lo, Hi: mid}, list), newPiece(api.Interval{Lo: mid, Hi: x.on.Hi}, moved(list))
}

// bound returns the number of roots in the interval, each counted with its multiplicity, or a number that is greater by 2, 4 and so on: Descartes' rule of signs. So 0 and 1 are exact.
func (x piece) bound() int {
	return changes(x.down, rational.Sign)
}

// isNegative reports whether the polynomial is negative near to an end of the interval.
func (x piece) isNegative() bool {
	return first(x.up) < 0 || first(x.down) < 0
}

// first returns the first sign that is not 0, and 0 if there is none.
func first(list api.Poly) int {
	for _, c := range list {
		if s := rational.Sign(c); s != 0 {
			return s
		}
	}
	return 0
}

// signAtStart returns the sign at the lower end of the interval.
func (x piece) signAtStart() int {
	return constant(x.up)
}

// signAtEnd returns the sign at the upper end of the interval.
func (x piece) signAtEnd() int {
	return constant(x.down)
}

// constant returns the sign of the constant coefficient.
func constant(list api.Poly) int {
	if len(list) == 0 {
		return 0
	}
	return rational.Sign(list[0])
}
