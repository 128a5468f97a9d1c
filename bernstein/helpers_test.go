package bernstein

import (
	"math/big"
	"reflect"
	"slices"
	"testing"

	"dspcompiler/api"
	"dspcompiler/interval"
	"dspcompiler/poly"
	"dspcompiler/rational"
)

const digit = 1<<32 - 1

// natural returns the value of a list of digits by the arithmetic of math/big, which the tests compare with.
func natural(a []uint32) *big.Int {
	v := new(big.Int)
	for _, x := range slices.Backward(a) {
		v.Lsh(v, 32)
		v.Or(v, new(big.Int).SetUint64(uint64(x)))
	}
	return v
}

// value returns the value of a number, which is 0 if its denominator is.
func value(a api.Rat) *big.Rat {
	num, den := natural(a.Num.Mag), natural(a.Den)
	if den.Sign() == 0 {
		return new(big.Rat)
	}
	if a.Num.Neg {
		num.Neg(num)
	}
	return new(big.Rat).SetFrac(num, den)
}

// values returns the ends of an interval, the lesser one first.
func values(a api.Interval) (lo, hi *big.Rat) {
	lo, hi = value(a.Lo), value(a.Hi)
	if lo.Cmp(hi) > 0 {
		return hi, lo
	}
	return lo, hi
}

// digits returns the digits of the absolute value of an integer.
func digits(n *big.Int) []uint32 {
	var list []uint32
	for v := new(big.Int).Abs(n); v.Sign() > 0; v.Rsh(v, 32) {
		list = append(list, uint32(new(big.Int).And(v, big.NewInt(digit)).Uint64()))
	}
	return list
}

// canonicalOf returns the valid number with a value of math/big.
func canonicalOf(v *big.Rat) api.Rat {
	return rat(v.Sign() < 0, digits(v.Num()), digits(v.Denom()))
}

// isNormal reports whether a list of digits has no leading zeros.
func isNormal(a []uint32) bool {
	return len(a) == 0 || a[len(a)-1] != 0
}

// canonicalRat is written from the definition, without rational.Valid.
func canonicalRat(a api.Rat) bool {
	if !isNormal(a.Num.Mag) || !isNormal(a.Den) || len(a.Den) == 0 {
		return false
	}
	if len(a.Num.Mag) == 0 {
		return !a.Num.Neg && len(a.Den) == 1 && a.Den[0] == 1
	}
	divisor := new(big.Int).GCD(nil, nil, natural(a.Num.Mag), natural(a.Den))
	return divisor.Cmp(big.NewInt(1)) == 0
}

// canonical is written from the definition, without interval.Valid.
func canonical(a api.Interval) bool {
	return canonicalRat(a.Lo) && canonicalRat(a.Hi) && value(a.Lo).Cmp(value(a.Hi)) <= 0
}

// sameRat compares two valid numbers as plain data.
func sameRat(a, b api.Rat) bool {
	return a.Num.Neg == b.Num.Neg && slices.Equal(a.Num.Mag, b.Num.Mag) && slices.Equal(a.Den, b.Den)
}

// same compares two valid intervals as plain data.
func same(a, b api.Interval) bool {
	return sameRat(a.Lo, b.Lo) && sameRat(a.Hi, b.Hi)
}

// sameSign compares two certificates with valid intervals as plain data.
func sameSign(a, b api.Sign) bool {
	return same(a.On, b.On) && slices.EqualFunc(a.Cells, b.Cells, same)
}

// rat returns a number as it stands.
func rat(neg bool, num, den []uint32) api.Rat {
	return api.Rat{Num: api.Int{Neg: neg, Mag: num}, Den: den}
}

// of returns the polynomial with integer coefficients, from the power 0 on, as they stand.
func of(coefficients ...int) api.Poly {
	var p api.Poly
	for _, c := range coefficients {
		p = append(p, rational.Of(c))
	}
	return p
}

// on returns the interval from a / 4 to b / 4, as it stands.
func on(a, b int) api.Interval {
	return api.Interval{Lo: rational.Frac(a, 4), Hi: rational.Frac(b, 4)}
}

// number returns the polynomial of the number a / b.
func number(a, b int) api.Poly {
	return api.Poly{rational.Frac(a, b)}
}

// square returns p times p.
func square(p api.Poly) api.Poly {
	return poly.Mul(p, p)
}

// chebyshev returns the n-th Chebyshev polynomial, which goes from -1 to 1 and back n times in [-1, 1].
func chebyshev(n int) api.Poly {
	p, q := of(1), of(0, 1)
	for range n {
		p, q = q, poly.Sub(poly.Mul(of(0, 2), q), p)
	}
	return p
}

// long returns a polynomial of a degree that is positive on [0, 1].
func long(degree int) api.Poly {
	p := make(api.Poly, degree+1)
	p[0], p[degree] = rational.Of(1), rational.Of(1)
	return p
}

// loose returns p with other numbers that have the same values, and with zeros at its end.
func loose(p api.Poly) api.Poly {
	var list api.Poly
	for _, c := range p {
		list = append(list, looseRat(c))
	}
	return append(list, api.Rat{}, rat(true, []uint32{0}, nil), rat(true, []uint32{5}, []uint32{0}), rational.Of(0))
}

func looseRat(c api.Rat) api.Rat {
	num, den := natural(c.Num.Mag), natural(c.Den)
	num.Mul(num, big.NewInt(6))
	den.Mul(den, big.NewInt(6))
	return rat(c.Num.Neg, append(digits(num), 0), append(digits(den), 0, 0))
}

// turned returns an interval with the same numbers, with its ends in the other order and in another form.
func turned(x api.Interval) api.Interval {
	return api.Interval{Lo: looseRat(x.Hi), Hi: looseRat(x.Lo)}
}

// samples are polynomials that are not zero: constant ones, ones with and without roots, near to 0 and with multiple roots, in all forms.
func samples() []api.Poly {
	third := api.Poly{rational.Frac(-1, 3), rational.Of(1)}
	list := []api.Poly{
		of(1), of(-5, 0), number(2, 3), of(0, 1), of(0, -1), of(3, 1), of(7, -2), third, of(0, 0, 1), of(1, 0, 1), of(-1, 0, -1), of(1, 1, 1), of(1, -2, 1), of(0, -1, 0, 1), of(0, -3, 0, 4), of(2, 0, 0, 1),
		poly.Add(of(0, 0, 1), number(1, 4)), poly.Add(of(0, 0, 1), number(1, 100)), poly.Add(square(third), number(1, 100)), poly.Add(square(third), number(1, 10000)), poly.Add(square(third), number(1, 100000000)), poly.Sub(square(third), number(1, 10000)), square(third),
		poly.Add(of(-1, 3), number(1, 1000)), of(1, -6, 9), of(24, -50, 35, -10, 1), of(-24, 50, -35, 10, -1), chebyshev(7), poly.Add(chebyshev(6), number(11, 10)), poly.Add(square(chebyshev(4)), number(1, 1000)), poly.Sub(number(999, 1000), square(chebyshev(3))),
		{rational.Frac(1, 3), rational.Frac(1, 5), rational.Frac(-1, 7), rational.Frac(1, 11)},
		{rat(true, []uint32{1, 2, 3}, []uint32{3, 2, 1}), {}, rat(false, []uint32{digit, 0, digit}, []uint32{digit, digit}), rational.Of(1)},
		{rat(false, []uint32{12, 0}, []uint32{4, 0}), rat(true, []uint32{5}, nil), rat(false, []uint32{9}, []uint32{3})},
	}
	for i := range 6 {
		list = append(list, loose(list[5*i+3]))
	}
	return list
}

// intervals are intervals with their ends at roots, between them and outside, points and long numbers, in both directions and in all forms.
func intervals() []api.Interval {
	return []api.Interval{
		on(-4, 4), on(4, -4), on(0, 4), on(-4, 0), on(0, 8), on(2, 3), on(5, 7), on(-40, 40), on(1, 3), on(-6, 5),
		{}, on(4, 4), on(-1, -1), {Lo: rational.Frac(1, 3), Hi: rational.Frac(1, 3)}, {Lo: rational.Frac(1, 3), Hi: rational.Of(1)}, {Lo: rational.Of(-1), Hi: rational.Frac(1, 3)}, {Lo: rational.Frac(3, 10), Hi: rational.Frac(7, 11)},
		{Lo: rat(true, []uint32{63, 0}, []uint32{50, 0}), Hi: rat(false, []uint32{6}, []uint32{4})}, {Lo: rat(false, []uint32{4}, []uint32{4}), Hi: rat(true, []uint32{5}, nil)},
		{Lo: rat(true, []uint32{0, 0, 1}, []uint32{1}), Hi: rat(false, []uint32{0, 0, 1}, []uint32{1})}, {Lo: rat(true, []uint32{1, 2, 3}, []uint32{3, 2, 1}), Hi: rat(false, []uint32{digit, 0, digit}, []uint32{digit, digit})},
	}
}

// zeros are the forms of the zero polynomial.
func zeros() []api.Poly {
	return []api.Poly{nil, {}, of(0), of(0, 0), {{}}, {rat(true, []uint32{3}, nil), rat(false, []uint32{0}, []uint32{3})}}
}

// lists returns the lists of digits of numbers.
func lists(numbers ...api.Rat) [][]uint32 {
	var all [][]uint32
	for _, x := range numbers {
		all = append(all, x.Num.Mag, x.Den)
	}
	return all
}

// ends returns the ends of intervals as numbers.
func ends(list ...api.Interval) []api.Rat {
	var all []api.Rat
	for _, x := range list {
		all = append(all, x.Lo, x.Hi)
	}
	return all
}

// joined returns the intervals between the numbers of a list, two by two.
func joined(list []api.Rat) []api.Interval {
	var all []api.Interval
	for pair := range slices.Chunk(list, 2) {
		all = append(all, api.Interval{Lo: pair[0], Hi: pair[1]})
	}
	return all
}

// padded returns a copy of the numbers that has more memory behind the ends of all its lists, and a copy that has this memory before its ends.
func padded(p []api.Rat) ([]api.Rat, []api.Rat) {
	var inner, outer []api.Rat
	for _, c := range append(slices.Clone(p), rational.Of(5)) {
		num, den := append(slices.Clone(c.Num.Mag), 77), append(slices.Clone(c.Den), 77)
		outer = append(outer, rat(c.Num.Neg, num, den))
		inner = append(inner, rat(c.Num.Neg, num[:len(num)-1], den[:len(den)-1]))
	}
	return inner[:len(p)], outer
}

// clearAll clears all lists of digits one by one, which must change no other one.
func clearAll(t *testing.T, numbers ...[]api.Rat) {
	t.Helper()
	var all, wanted [][]uint32
	for _, list := range numbers {
		all = append(all, lists(list...)...)
	}
	for _, list := range all {
		wanted = append(wanted, slices.Clone(list))
	}
	for i, list := range all {
		if !slices.Equal(list, wanted[i]) {
			t.Fatal("lists of digits share memory", i)
		}
		list = list[:cap(list)]
		for j := range list {
			list[j] = 99
		}
	}
}

// results are the results of all functions for one polynomial and one interval.
type results struct {
	Coefficients []api.Rat
	Range, Bound api.Interval
	Sign         api.Sign
	Check        api.Errno
}

func resultsOf(p api.Poly, x api.Interval, s api.Sign) results {
	bound, _ := Bound(p, x, 2)
	sign, _ := Prove(p, x)
	return results{Coefficients(p, x), Range(p, x), bound, sign, Check(p, s)}
}

// R3: arguments stay as they are, also behind their ends, and no list of a result shares memory with them or with another list.
func TestMemory(t *testing.T) {
	xs := intervals()
	for i, p := range samples() {
		for j := range 3 {
			x := xs[(5*i+7*j)%len(xs)]
			s := cover(x)
			q, outer := padded(p)
			parts, outerParts := padded(ends(append([]api.Interval{x}, s.Cells...)...))
			all := joined(parts)
			copied := append(slices.Clone(all), on(1, 2))
			run := func() results {
				return resultsOf(q, all[0], api.Sign{On: all[0], Cells: all[1:len(all):len(all)]})
			}
			a, b := run(), run()
			clearAll(t, a.Coefficients, ends(a.Range, a.Bound, a.Sign.On), ends(a.Sign.Cells...), b.Coefficients, ends(b.Range, b.Bound, b.Sign.On), ends(b.Sign.Cells...))
			_, wanted := padded(p)
			_, wantedParts := padded(ends(append([]api.Interval{x}, s.Cells...)...))
			if !reflect.DeepEqual(outer, wanted) || !reflect.DeepEqual(outerParts, wantedParts) || !slices.EqualFunc(q[:len(p)+1], append(slices.Clone(p), rational.Of(5)), sameRat) || !reflect.DeepEqual(copied[:len(all)], all) {
				t.Fatal("an argument is modified", p, x)
			}
			if !reflect.DeepEqual(run(), resultsOf(p, x, s)) {
				t.Fatal("the second results differ", p, x)
			}
		}
	}
}

// R3: all lists of the arguments may be the same memory, and those of the results are not.
func TestSharedArgument(t *testing.T) {
	digits := []uint32{6, 3}
	one := rat(false, digits, digits)
	x := api.Interval{Lo: one, Hi: one}
	p := api.Poly{one, one}
	r := resultsOf(p, x, api.Sign{On: x, Cells: []api.Interval{x, x}})
	if !slices.EqualFunc(r.Coefficients, of(2, 2), sameRat) || !same(r.Range, on(8, 8)) || !same(r.Bound, on(8, 8)) || !sameSign(r.Sign, api.Sign{On: on(4, 4), Cells: []api.Interval{on(4, 4)}}) || r.Check != api.OK {
		t.Error(r)
	}
	clearAll(t, r.Coefficients, ends(r.Range, r.Bound, r.Sign.On), ends(r.Sign.Cells...))
	if !slices.Equal(digits, []uint32{6, 3}) {
		t.Error("the argument is modified", digits)
	}
}

// R4: equal values are equal results, also where one list would be nil and the other one empty.
func TestPlainData(t *testing.T) {
	for i, p := range append(samples(), zeros()...) {
		x := intervals()[i%len(intervals())]
		s := cover(x)
		first := resultsOf(p, x, s)
		second := resultsOf(loose(poly.Trim(p)), turned(x), api.Sign{On: turned(s.On), Cells: mapped(s.Cells, turned)})
		third := resultsOf(poly.Trim(p), interval.Trim(x), api.Sign{On: interval.Trim(s.On), Cells: mapped(s.Cells, interval.Trim)})
		if !reflect.DeepEqual(first, second) || !reflect.DeepEqual(first, third) {
			t.Errorf("%v on %v: %v, %v and %v", p, x, first, second, third)
		}
	}
}

// mapped returns the results of a function for all intervals of a list.
func mapped(list []api.Interval, do func(x api.Interval) api.Interval) []api.Interval {
	var all []api.Interval
	for _, x := range list {
		all = append(all, do(x))
	}
	return all
}

// cover returns three cells that cover an interval, the second one of which is a point.
func cover(x api.Interval) api.Sign {
	mid := interval.Mid(x)
	x = interval.Trim(x)
	return api.Sign{On: x, Cells: []api.Interval{{Lo: mid, Hi: x.Lo}, {Lo: mid, Hi: mid}, {Lo: mid, Hi: x.Hi}}}
}
