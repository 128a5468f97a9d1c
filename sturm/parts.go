package sturm

import (
	"iter"

	"dspcompiler/api"
	"dspcompiler/interval"
	"dspcompiler/rational"
)

// part is a part of an interval with at most one root of a polynomial: a point, or an open interval.
type part struct {
	on       api.Interval
	roots    int
	negative bool // whether the polynomial is negative somewhere in it
}

func (x part) isNonnegative() bool {
	return !x.negative
}

func (x part) isPositive() bool {
	return !x.negative && x.roots == 0
}

// point returns a point as a part, with the sign of the polynomial there.
func point(x api.Rat, sign int) part {
	at := part{on: api.Interval{Lo: x, Hi: x}, negative: sign < 0}
	if sign == 0 {
		at.roots = 1
	}
	return at
}

// patience is the number of halvings after which Sturm's chain is made. Descartes' rule is fast and mostly suffices, but it never tells a multiple root from several ones, and late two complex roots near the interval from none.
const patience = 12

// search divides an interval into parts.
type search struct {
	p          api.Poly
	variations func(x api.Rat) int // of the chain; nil until it is needed
}

// parts returns the parts of an interval for p, in ascending order. (For the zero polynomial, of all numbers only both ends count as roots.)
func parts(p api.Poly, on api.Interval) iter.Seq[part] {
	on = interval.Trim(on)
	return func(yield func(x part) bool) {
		s, x := search{p: p}, pieceOf(p, on)
		if !yield(point(on.Lo, x.signAtStart())) || rational.Compare(on.Lo, on.Hi) == 0 {
			return
		}
		if s.open(x, 0, yield) {
			yield(point(on.Hi, x.signAtEnd()))
		}
	}
}

// open yields the parts of an open interval that is the result of so many halvings, and reports whether more parts are wanted.
func (s *search) open(x piece, halvings int, yield func(x part) bool) bool {
	roots := x.bound()
	if roots > 1 && halvings >= patience {
		roots = s.count(x)
	}
	if roots <= 1 {
		return yield(part{x.on, roots, x.isNegative()})
	}
	left, right := x.halves()
	return s.open(left, halvings+1, yield) && yield(point(left.on.Hi, left.signAtEnd())) && s.open(right, halvings+1, yield)
}

// count returns the number of different roots in an open interval by Sturm's theorem.
func (s *search) count(x piece) int {
	if s.variations == nil {
		s.variations = chainOf(s.p).variations
	}
	count := s.variations(x.on.Lo) - s.variations(x.on.Hi)
	if x.signAtEnd() == 0 {
		// The theorem counts the upper end, too.
		return count - 1
	}
	return count
}
