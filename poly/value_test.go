package poly

import (
	"math/big"
	"testing"

	"dspcompiler/api"
	"dspcompiler/interval"
	"dspcompiler/rational"
)

// P5.2
func TestEval(t *testing.T) {
	for _, p := range append(samples(), small()...) {
		for _, x := range append(numbers(), rational.Of(-2), rational.Frac(-5, 7), rational.Frac(3, 2)) {
			expectRat(t, Eval(p, x), modelOf(p).valueAt(value(x)), "Eval", p, x)
		}
	}
	for _, x := range []struct {
		p       api.Poly
		x, want api.Rat
	}{
		{nil, rational.Of(7), rational.Of(0)}, {of(0, 0), rational.Of(7), rational.Of(0)}, {of(5), rational.Frac(1, 3), rational.Of(5)},
		{of(5, 1, 1), rational.Of(0), rational.Of(5)}, {of(1, -3, 2), rational.Frac(1, 2), rational.Of(0)}, {of(1, -3, 2), rational.Frac(1, 3), rational.Frac(2, 9)},
		{of(1, -3, 2), rational.Of(-1), rational.Of(6)}, {of(1, -3, 2), api.Rat{}, rational.Of(1)},
	} {
		if got := Eval(x.p, x.x); !sameRat(got, x.want) {
			t.Error("Eval", x, got)
		}
	}
}

// bounds returns the ends of the interval that Horner's rule gives with intervals of math/big.
func bounds(p api.Poly, x api.Interval) (lo, hi *big.Rat) {
	lo, hi = new(big.Rat), new(big.Rat)
	m := modelOf(p)
	for i := len(m) - 1; i >= 0; i-- {
		var least, greatest *big.Rat
		for _, a := range []*big.Rat{lo, hi} {
			for _, b := range []*big.Rat{value(x.Lo), value(x.Hi)} {
				v := new(big.Rat).Mul(a, b)
				if least == nil || v.Cmp(least) < 0 {
					least = v
				}
				if greatest == nil || v.Cmp(greatest) > 0 {
					greatest = v
				}
			}
		}
		lo, hi = new(big.Rat).Add(least, m[i]), new(big.Rat).Add(greatest, m[i])
	}
	return lo, hi
}

// P5.2
func TestEnclose(t *testing.T) {
	for _, p := range append(samples(), small()...) {
		for _, x := range intervals() {
			lo, hi := bounds(p, x)
			got := Enclose(p, x)
			expectRat(t, got.Lo, lo, "Enclose", p, x)
			expectRat(t, got.Hi, hi, "Enclose", p, x)
			if !interval.Valid(got) {
				t.Error("Enclose", p, x, got)
			}
		}
	}
}

// P5.2: the document's example, the edge cases, and intervals that are wider than the values.
func TestEncloseOfExamples(t *testing.T) {
	unit, both := interval.Make(rational.Of(0), rational.Of(1)), interval.Make(rational.Of(-1), rational.Of(1))
	turned := api.Interval{Lo: rational.Of(1), Hi: rational.Of(-1)}
	point := interval.Make(rational.Frac(1, 2), rational.Frac(1, 2))
	for _, x := range []struct {
		p      api.Poly
		on     api.Interval
		lo, hi api.Rat
	}{
		{of(0, -1, 1), unit, rational.Of(-1), rational.Of(0)},
		{nil, unit, rational.Of(0), rational.Of(0)},
		{of(0, 0), both, rational.Of(0), rational.Of(0)},
		{of(-3), both, rational.Of(-3), rational.Of(-3)},
		{of(0, 0, 1), both, rational.Of(-1), rational.Of(1)},
		{of(0, 0, 1, 0, 0), turned, rational.Of(-1), rational.Of(1)},
		{of(1, -2, 1), both, rational.Of(-2), rational.Of(4)},
		{of(0, -1, 1), point, rational.Frac(-1, 4), rational.Frac(-1, 4)},
		{of(4, 1), api.Interval{}, rational.Of(4), rational.Of(4)},
	} {
		if got := Enclose(x.p, x.on); !sameRat(got.Lo, x.lo) || !sameRat(got.Hi, x.hi) {
			t.Error("Enclose", x, got)
		}
	}
}

// Consequences: Enclose contains the values at all numbers of the interval.
func TestEncloseContains(t *testing.T) {
	for _, p := range samples() {
		for _, on := range intervals() {
			all := Enclose(p, on)
			for i := range 5 {
				part := rational.Frac(i, 4)
				x := rational.Add(on.Lo, rational.Mul(part, rational.Sub(on.Hi, on.Lo)))
				if !interval.Contains(all, Eval(p, x)) {
					t.Error("Enclose", p, on, x)
				}
			}
		}
	}
}
