package sturm

import (
	"math/big"
	"reflect"
	"slices"
	"testing"

	"dspcompiler/api"
	"dspcompiler/interval"
	"dspcompiler/poly"
	"dspcompiler/rational"
)

const digit = 1<<32 - 1

// natural returns the value of a list of digits by the arithmetic of math/big, which the tests compare with.
func natural(a []uint32) *big.Int {
	v := new(big.Int)
	for _, x := range slices.Backward(a) {
		v.Lsh(v, 32)
		v.Or(v, new(big.Int).SetUint64(uint64(x)))
	}
	return v
}

// value returns the value of a number, which is 0 if its denominator is.
func value(a api.Rat) *big.Rat {
	num, den := natural(a.Num.Mag), natural(a.Den)
	if den.Sign() == 0 {
		return new(big.Rat)
	}
	if a.Num.Neg {
		num.Neg(num)
	}
	return new(big.Rat).SetFrac(num, den)
}

// values returns the ends of an interval, the lesser one first.
func values(a api.Interval) (lo, hi *big.Rat) {
	lo, hi = value(a.Lo), value(a.Hi)
	if lo.Cmp(hi) > 0 {
		return hi, lo
	}
	return lo, hi
}

// isNormal reports whether a list of digits has no leading zeros.
func isNormal(a []uint32) bool {
	return len(a) == 0 || a[len(a)-1] != 0
}

// canonicalRat is written from the definition, without rational.Valid.
func canonicalRat(a api.Rat) bool {
	if !isNormal(a.Num.Mag) || !isNormal(a.Den) || len(a.Den) == 0 {
		return false
	}
	if len(a.Num.Mag) == 0 {
		return !a.Num.Neg && len(a.Den) == 1 && a.Den[0] == 1
	}
	divisor := new(big.Int).GCD(nil, nil, natural(a.Num.Mag), natural(a.Den))
	return divisor.Cmp(big.NewInt(1)) == 0
}

// canonical is written from the definition, without interval.Valid.
func canonical(a api.Interval) bool {
	return canonicalRat(a.Lo) && canonicalRat(a.Hi) && value(a.Lo).Cmp(value(a.Hi)) <= 0
}

// sameRat compares two valid numbers as plain data.
func sameRat(a, b api.Rat) bool {
	return a.Num.Neg == b.Num.Neg && slices.Equal(a.Num.Mag, b.Num.Mag) && slices.Equal(a.Den, b.Den)
}

// same compares two lists of valid intervals as plain data.
func same(a, b []api.Interval) bool {
	return slices.EqualFunc(a, b, func(x, y api.Interval) bool { return sameRat(x.Lo, y.Lo) && sameRat(x.Hi, y.Hi) })
}

// rat returns a number as it stands.
func rat(neg bool, num, den []uint32) api.Rat {
	return api.Rat{Num: api.Int{Neg: neg, Mag: num}, Den: den}
}

// of returns the polynomial with integer coefficients, from the power 0 on, as they stand.
func of(coefficients ...int) api.Poly {
	var p api.Poly
	for _, c := range coefficients {
		p = append(p, rational.Of(c))
	}
	return p
}

// on returns the interval from a / 4 to b / 4, as it stands.
func on(a, b int) api.Interval {
	return api.Interval{Lo: rational.Frac(a, 4), Hi: rational.Frac(b, 4)}
}

// product returns the product of polynomials.
func product(factors ...api.Poly) api.Poly {
	p := of(1)
	for _, q := range factors {
		p = poly.Mul(p, q)
	}
	return p
}

// repeated returns the n-th power of p.
func repeated(p api.Poly, n int) api.Poly {
	power, _ := poly.Pow(p, n)
	return power
}

// tiny returns 2^(-n).
func tiny(n int) api.Rat {
	x := rational.Of(1)
	for range n {
		x = rational.Mul(x, rational.Frac(1, 2))
	}
	return x
}

// chebyshev returns the n-th Chebyshev polynomial, which has n roots in [-1, 1] and is 1 or -1 at n + 1 numbers there.
func chebyshev(n int) api.Poly {
	p, q := of(1), of(0, 1)
	for range n {
		p, q = q, poly.Sub(product(of(0, 2), q), p)
	}
	return p
}

// long returns a polynomial of a degree.
func long(degree int) api.Poly {
	p := make(api.Poly, degree+1)
	p[0], p[degree] = rational.Of(-1), rational.Of(1)
	return p
}

// loose returns p with other numbers that have the same values, and with zeros at its end.
func loose(p api.Poly) api.Poly {
	var list api.Poly
	for _, c := range p {
		num, den := natural(c.Num.Mag), natural(c.Den)
		num.Mul(num, big.NewInt(6))
		den.Mul(den, big.NewInt(6))
		list = append(list, rat(c.Num.Neg, append(digits(num), 0), append(digits(den), 0, 0)))
	}
	return append(list, api.Rat{}, rat(true, []uint32{0}, nil), rat(true, []uint32{5}, []uint32{0}), rational.Of(0))
}

// digits returns the digits of a natural number.
func digits(n *big.Int) []uint32 {
	var list []uint32
	for v := new(big.Int).Set(n); v.Sign() > 0; v.Rsh(v, 32) {
		list = append(list, uint32(new(big.Int).And(v, big.NewInt(digit)).Uint64()))
	}
	return list
}

// samples are polynomials that are not zero: with no roots, rational and irrational ones, near and multiple ones, at ends and in the middle of intervals.
func samples() []api.Poly {
	third := api.Poly{rational.Frac(-1, 3), rational.Of(1)}
	near := tiny(70)
	list := []api.Poly{
		of(1), of(-5, 0), {rational.Frac(2, 3)}, of(0, 1), of(0, -1), of(-1, 2), of(1, 1), third,
		of(0, -1, 0, 1), of(-2, 0, 1), of(2, 0, -1), of(1, 0, 1), of(-1, 0, -1), of(1, 1, 1), of(1, -2, 1), of(-1, 2, -1), of(-1, 3, -3, 1), of(0, 0, 1), of(0, 0, 0, -1),
		of(6, 5, -2, -1), of(24, -50, 35, -10, 1), of(1, 0, -3, 0, 1), of(-1, 1, 1, -1), of(0, 1, 0, 0, 0, -1),
		repeated(of(-2, 0, 1), 2), repeated(of(-2, 0, 1), 3), poly.Scale(repeated(of(-2, 0, 1), 2), rational.Of(-3)), repeated(of(0, -1, 0, 1), 3), repeated(of(1, 0, 1), 2),
		product(of(-2, 0, 1), of(-2, 0, 1), of(-1, 1)), product(of(1, -2, 1), of(-2, 0, 1)), product(of(1, -2, 1), of(2, 0, -1)), product(of(-3, 0, 4), of(-3, 0, 4), of(1, 1)),
		product(of(-1, 0, 2), of(-99, 0, 200)), product(third, third, of(1, 0, 1)), product(third, third, third, of(-2, 0, 1)), product(repeated(third, 4), of(-1, 3, 0, 1)),
		chebyshev(7), chebyshev(8), poly.Sub(of(1), repeated(chebyshev(4), 2)), poly.Sub(repeated(chebyshev(3), 2), of(1)), poly.Sub(api.Poly{rational.Frac(999, 1000)}, repeated(chebyshev(5), 2)),
		{rational.Frac(1, 3), rational.Frac(1, 5), rational.Frac(-1, 7), rational.Frac(1, 11)},
		// Two roots that are near to one another, two complex roots that are near to a real number, and three near roots.
		poly.Sub(repeated(third, 2), api.Poly{near}), poly.Add(repeated(third, 2), api.Poly{near}), poly.Sub(repeated(third, 3), product(api.Poly{near}, third)),
		{rational.Frac(1, 1000000), rational.Of(-2), rational.Of(1)},
		// Two complex roots on the left of a root in the middle of intervals.
		product(of(-1, 2), poly.Add(repeated(api.Poly{rational.Sub(tiny(20), rational.Frac(1, 2)), rational.Of(1)}, 2), api.Poly{tiny(60)})),
		{rat(true, []uint32{1, 2, 3}, []uint32{3, 2, 1}), {}, rat(false, []uint32{digit, 0, digit}, []uint32{digit, digit}), rational.Of(1)},
	}
	for i := range 6 {
		list = append(list, loose(list[7*i+2]))
	}
	return list
}

// intervals are intervals with their ends at roots, between them and outside, points and long numbers, in both directions and in all forms.
func intervals() []api.Interval {
	return []api.Interval{
		on(-4, 4), on(4, -4), on(0, 4), on(-4, 0), on(0, 8), on(-8, 8), on(2, 4), on(5, 7), on(-40, 40), on(400, -404), on(1, 3), on(-6, 5),
		{}, on(4, 4), on(1, 1), on(-4, -4), {Lo: rational.Frac(1, 3), Hi: rational.Frac(1, 3)}, {Lo: rational.Frac(1, 3), Hi: rational.Of(1)}, {Lo: rational.Of(-1), Hi: rational.Frac(1, 3)},
		{Lo: rat(true, []uint32{63, 0}, []uint32{50, 0}), Hi: rat(false, []uint32{6}, []uint32{4})}, {Lo: rat(false, []uint32{4}, []uint32{4}), Hi: rat(true, []uint32{5}, nil)},
		{Lo: rat(true, []uint32{0, 0, 1}, []uint32{1}), Hi: rat(false, []uint32{0, 0, 1}, []uint32{1})}, {Lo: rat(true, []uint32{1, 2, 3}, []uint32{3, 2, 1}), Hi: rat(false, []uint32{digit, 0, digit}, []uint32{digit, digit})},
		{Lo: rational.Frac(1, 3), Hi: rational.Add(rational.Frac(1, 3), tiny(35))},
	}
}

// lists returns the lists of digits of numbers.
func lists(numbers ...api.Rat) [][]uint32 {
	var all [][]uint32
	for _, x := range numbers {
		all = append(all, x.Num.Mag, x.Den)
	}
	return all
}

// padded returns a copy of the numbers that has more memory behind the ends of all its lists, and a copy that has this memory before its ends.
func padded(p []api.Rat) ([]api.Rat, []api.Rat) {
	var inner, outer []api.Rat
	for _, c := range append(slices.Clone(p), rational.Of(5)) {
		num, den := append(slices.Clone(c.Num.Mag), 77), append(slices.Clone(c.Den), 77)
		outer = append(outer, rat(c.Num.Neg, num, den))
		inner = append(inner, rat(c.Num.Neg, num[:len(num)-1], den[:len(den)-1]))
	}
	return inner[:len(p)], outer
}

// clearAll clears all lists of digits of the intervals one by one, which must change no other one.
func clearAll(t *testing.T, results ...[]api.Interval) {
	t.Helper()
	var all, wanted [][]uint32
	for _, list := range results {
		for _, x := range list {
			all = append(all, lists(x.Lo, x.Hi)...)
		}
	}
	for _, list := range all {
		wanted = append(wanted, slices.Clone(list))
	}
	for i, list := range all {
		if !slices.Equal(list, wanted[i]) {
			t.Fatal("lists of digits share memory", i)
		}
		list = list[:cap(list)]
		for j := range list {
			list[j] = 99
		}
	}
}

// R3: arguments stay as they are, also behind their ends, and no list of a result shares memory with them or with another list.
func TestMemory(t *testing.T) {
	ons := intervals()
	for i, p := range samples() {
		for j := range 3 {
			x := ons[(5*i+7*j)%len(ons)]
			q, outer := padded(p)
			ends, outerEnds := padded([]api.Rat{x.Lo, x.Hi})
			isolate := func() []api.Interval {
				list, _ := Isolate(q, api.Interval{Lo: ends[0], Hi: ends[1]}, 9)
				return list
			}
			Count(q, api.Interval{Lo: ends[0], Hi: ends[1]})
			SignAfter(q, ends[0])
			Nonnegative(q, api.Interval{Lo: ends[0], Hi: ends[1]})
			Positive(q, api.Interval{Lo: ends[0], Hi: ends[1]})
			clearAll(t, isolate(), isolate())
			_, wanted := padded(p)
			_, wantedEnds := padded([]api.Rat{x.Lo, x.Hi})
			if !reflect.DeepEqual(outer, wanted) || !reflect.DeepEqual(outerEnds, wantedEnds) || !slices.EqualFunc(q[:len(p)+1], append(slices.Clone(p), rational.Of(5)), sameRat) {
				t.Fatal("an argument is modified", p, x)
			}
			if again, _ := Isolate(p, x, 9); !same(isolate(), again) {
				t.Fatal("the second result differs", p, x)
			}
		}
	}
}

// R3: all lists of the arguments may be the same memory, and those of the results are not.
func TestSharedArgument(t *testing.T) {
	digits := []uint32{6, 3}
	one := rat(false, digits, digits)
	minus := rat(true, digits, digits)
	point, _ := Isolate(api.Poly{minus, one}, api.Interval{Lo: one, Hi: one}, 3)
	ends, _ := Isolate(api.Poly{minus, minus, one, one}, api.Interval{Lo: minus, Hi: one}, 3)
	clearAll(t, point, ends)
	if len(point) != 1 || len(ends) != 2 || !slices.Equal(digits, []uint32{6, 3}) {
		t.Error("the argument is modified", digits, point, ends)
	}
}

// R4: equal values are equal results, also where one list would be nil and the other one empty.
func TestPlainData(t *testing.T) {
	for i, p := range samples() {
		x := intervals()[i%12]
		first, _ := Isolate(p, x, 12)
		turned := api.Interval{Lo: loose(api.Poly{x.Hi})[0], Hi: loose(api.Poly{x.Lo})[0]}
		second, _ := Isolate(loose(poly.Trim(p)), turned, 12)
		third, _ := Isolate(p, interval.Trim(x), 12)
		if !reflect.DeepEqual(first, second) || !reflect.DeepEqual(first, third) {
			t.Errorf("%v on %v: %v and %v", p, x, first, second)
		}
	}
	for _, x := range intervals() {
		if list, e := Isolate(of(1, 0, 1), x, 3); list != nil || e != api.OK {
			t.Error("no roots", list, e)
		}
	}
}
