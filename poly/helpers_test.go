package poly

import (
	"math/big"
	"reflect"
	"slices"
	"testing"

	"dspcompiler/api"
	"dspcompiler/interval"
	"dspcompiler/rational"
)

const digit = 1<<32 - 1

// natural returns the value of a list of digits by the arithmetic of math/big, which the tests compare with.
func natural(a []uint32) *big.Int {
	v := new(big.Int)
	for _, x := range slices.Backward(a) {
		v.Lsh(v, 32)
		v.Or(v, new(big.Int).SetUint64(uint64(x)))
	}
	return v
}

// value returns the value of a number, which is 0 if its denominator is.
func value(a api.Rat) *big.Rat {
	num, den := natural(a.Num.Mag), natural(a.Den)
	if den.Sign() == 0 {
		return new(big.Rat)
	}
	if a.Num.Neg {
		num.Neg(num)
	}
	return new(big.Rat).SetFrac(num, den)
}

// isNormal reports whether a list of digits has no leading zeros.
func isNormal(a []uint32) bool {
	return len(a) == 0 || a[len(a)-1] != 0
}

// canonicalRat is written from the definition, without rational.Valid.
func canonicalRat(a api.Rat) bool {
	if !isNormal(a.Num.Mag) || !isNormal(a.Den) || len(a.Den) == 0 {
		return false
	}
	if len(a.Num.Mag) == 0 {
		return !a.Num.Neg && len(a.Den) == 1 && a.Den[0] == 1
	}
	divisor := new(big.Int).GCD(nil, nil, natural(a.Num.Mag), natural(a.Den))
	return divisor.Cmp(big.NewInt(1)) == 0
}

// canonical is written from the definition, without Valid, so that a wrong Valid does not hide a wrong result.
func canonical(p api.Poly) bool {
	for _, c := range p {
		if !canonicalRat(c) {
			return false
		}
	}
	return len(p) == 0 || len(p[len(p)-1].Num.Mag) > 0
}

// expect checks that a result is valid and is the polynomial that is wanted.
func expect(t *testing.T, got api.Poly, want model, call string, arguments ...any) {
	t.Helper()
	if !canonical(got) || !modelOf(got).equals(want) {
		t.Errorf("%s%v is %v, not %v", call, arguments, got, want)
	}
}

// expectRat checks that a result is valid and has the value that is wanted.
func expectRat(t *testing.T, got api.Rat, want *big.Rat, call string, arguments ...any) {
	t.Helper()
	if !canonicalRat(got) || value(got).Cmp(want) != 0 {
		t.Errorf("%s%v is %v, not %v", call, arguments, got, want)
	}
}

// sameRat compares two valid numbers as plain data.
func sameRat(a, b api.Rat) bool {
	return a.Num.Neg == b.Num.Neg && slices.Equal(a.Num.Mag, b.Num.Mag) && slices.Equal(a.Den, b.Den)
}

// same compares two valid polynomials as plain data.
func same(p, q api.Poly) bool {
	return slices.EqualFunc(p, q, sameRat)
}

// rat returns a number as it stands.
func rat(neg bool, num, den []uint32) api.Rat {
	return api.Rat{Num: api.Int{Neg: neg, Mag: num}, Den: den}
}

// of returns the polynomial with integer coefficients, from the power 0 on, as they stand.
func of(coefficients ...int) api.Poly {
	var p api.Poly
	for _, c := range coefficients {
		p = append(p, rational.Of(c))
	}
	return p
}

// numbers are numbers in all forms, with both signs: zeros with and without a denominator, not normal, not in lowest terms, short and long.
func numbers() []api.Rat {
	return []api.Rat{
		{}, rat(true, []uint32{5}, []uint32{0}), rat(true, []uint32{0}, []uint32{7}), rat(false, nil, []uint32{1}),
		rat(false, []uint32{1}, []uint32{1}), rat(true, []uint32{3, 0}, []uint32{3}), rat(false, []uint32{2}, []uint32{4, 0}),
		rat(true, []uint32{1}, []uint32{3}), rat(true, []uint32{4}, []uint32{6, 0}), rat(false, []uint32{7}, []uint32{3}),
		rat(true, []uint32{0, 6}, []uint32{0, 4}), rat(false, []uint32{1}, []uint32{0, 1}),
		rat(true, []uint32{1, 2, 3}, []uint32{3, 2, 1}), rat(false, []uint32{digit, 0, digit}, []uint32{digit, digit}),
	}
}

// samples are polynomials in all forms: zeros, with zeros behind their end, with coefficients in all forms, with common divisors and multiple roots.
func samples() []api.Poly {
	list := []api.Poly{
		nil, {}, {{}}, {{}, rational.Of(0), rat(true, []uint32{0}, nil)}, of(1), of(-5, 0), {rational.Frac(2, 3)},
		of(1, 1), of(-1, 1), of(2, -2, 0, 0), {rational.Frac(1, 2), {}, rational.Frac(-3, 4), {}}, of(0, 0, 1), of(0, 1),
		of(-1, 0, 1), of(1, -2, 1), of(0, 0, -1, 1), of(-1, 3, -3, 1), of(4, 0, 1), of(6, 5, -2, -1),
		of(16, 0, 8, 0, 1), of(-2, 0, 0, 0, 2), of(1, 1, 1, 1, 1, 1), of(7, -1, 5), of(prime, 1), of(1, prime), of(2, 1+2*prime, prime), of(-7, 0, prime),
		{rational.Frac(1, 3), rational.Frac(1, 5), rational.Frac(-1, 7), rational.Frac(1, 11)},
	}
	all := numbers()
	for i := range all {
		list = append(list, api.Poly{all[i], all[(i+5)%len(all)], all[(3*i+1)%len(all)]})
	}
	return append(list, all, all[:5], all[4:11], slices.Concat(of(3), all[9:]))
}

// few returns every step-th sample from the start-th on.
func few(start, step int) []api.Poly {
	var list []api.Poly
	all := samples()
	for i := start; i < len(all); i += step {
		list = append(list, all[i])
	}
	return list
}

// small are all polynomials with three coefficients from -2/3 to 2/3, as they stand.
func small() []api.Poly {
	var list []api.Poly
	for i := -2; i <= 2; i++ {
		for j := -2; j <= 2; j++ {
			for k := -2; k <= 2; k++ {
				list = append(list, api.Poly{rational.Frac(i, 3), rational.Frac(j, 3), rational.Frac(k, 3)})
			}
		}
	}
	return list
}

// intervals are points, intervals with 0 inside, at an end and outside, in both directions.
func intervals() []api.Interval {
	all := numbers()
	list := []api.Interval{
		{}, interval.Make(rational.Of(0), rational.Of(1)), {Lo: rational.Of(1), Hi: rational.Of(-1)},
		{Lo: rational.Frac(-7, 2), Hi: rational.Frac(-5, 3)}, {Lo: rational.Frac(1, 2), Hi: rational.Frac(1, 2)},
	}
	for i := range all {
		list = append(list, api.Interval{Lo: all[i], Hi: all[(5*i+4)%len(all)]})
	}
	return list
}

// allCalls returns the results of all calls with p, q, x and on that return polynomials, numbers or intervals, the latter two as lists.
func allCalls(p, q api.Poly, x api.Rat, on api.Interval) []api.Poly {
	monomial, _ := Monomial(x, 3)
	constant, _ := Monomial(x, 0)
	one, _ := Pow(p, 0)
	first, _ := Pow(p, 1)
	cube, _ := Pow(p, 3)
	quotient, rest, _ := DivMod(p, q)
	itself, nothing, _ := DivMod(p, p)
	composition, _ := Compose(p, q)
	shifted, _ := Compose(q, api.Poly{x, rational.Of(1)})
	enclosure := Enclose(p, on)
	Valid(p)
	Degree(p)
	Same(p, q)
	return []api.Poly{
		Trim(p), monomial, constant, {Eval(p, x)}, {enclosure.Lo, enclosure.Hi}, Add(p, q), Sub(p, q), Add(q, p), Sub(p, p), Mul(p, q), Mul(p, p),
		Scale(p, x), one, first, cube, quotient, rest, itself, nothing, Gcd(p, q), Gcd(p, p), Gcd(p, nil), Monic(p), Derivative(p), composition, shifted, Squarefree(p),
	}
}

// lists returns the lists of digits of all coefficients.
func lists(p api.Poly) [][]uint32 {
	var all [][]uint32
	for _, c := range p {
		all = append(all, c.Num.Mag, c.Den)
	}
	return all
}

// padded returns a copy of p that has more memory behind the ends of all its lists, and a copy that has this memory before its ends.
func padded(p api.Poly) (api.Poly, api.Poly) {
	var inner, outer api.Poly
	for _, c := range append(slices.Clone(p), rational.Of(5)) {
		num, den := append(slices.Clone(c.Num.Mag), 77), append(slices.Clone(c.Den), 77)
		outer = append(outer, rat(c.Num.Neg, num, den))
		inner = append(inner, rat(c.Num.Neg, num[:len(num)-1], den[:len(den)-1]))
	}
	return inner[:len(p)], outer
}

// clearAll clears all lists of digits of the results one by one, which must change no other one, and then all coefficients.
func clearAll(t *testing.T, results []api.Poly) {
	t.Helper()
	var digits, wanted [][]uint32
	for _, p := range results {
		digits = append(digits, lists(p)...)
	}
	for _, list := range digits {
		wanted = append(wanted, slices.Clone(list))
	}
	for i, list := range digits {
		if !slices.Equal(list, wanted[i]) {
			t.Fatal("lists of digits share memory", i)
		}
		clear(list[:cap(list)])
	}
	mark := rational.Of(99)
	for i, p := range results {
		p = p[:cap(p)]
		if slices.ContainsFunc(p, func(c api.Rat) bool { return sameRat(c, mark) }) {
			t.Fatal("lists of coefficients share memory", i)
		}
		for j := range p {
			p[j] = mark
		}
	}
}

// checkMemory clears the results of all calls, which must change neither other results nor an argument.
func checkMemory(t *testing.T, p, q api.Poly, x api.Rat, on api.Interval) {
	t.Helper()
	f, outerF := padded(p)
	g, outerG := padded(q)
	// The number and the interval are kept as a list, too.
	h, outerH := padded(api.Poly{x, on.Lo, on.Hi})
	call := func() []api.Poly { return allCalls(f, g, h[0], api.Interval{Lo: h[1], Hi: h[2]}) }
	first := call()
	clearAll(t, first)
	for i, x := range []struct{ was, is, outer api.Poly }{{p, f, outerF}, {q, g, outerG}, {api.Poly{x, on.Lo, on.Hi}, h, outerH}} {
		inner, outer := padded(x.was)
		if !reflect.DeepEqual(inner[:cap(inner)], x.is[:cap(x.is)]) || !reflect.DeepEqual(outer, x.outer) {
			t.Fatal("an argument is modified", i, x)
		}
	}
	second, wanted := call(), allCalls(p, q, x, on)
	for i := range second {
		if !same(second[i], wanted[i]) {
			t.Fatal("the second result differs", i, p, q, x, on)
		}
	}
}

// R3: arguments stay as they are, also behind their ends, and no list of a result shares memory with them or with another list.
func TestMemory(t *testing.T) {
	xs, ons := numbers(), intervals()
	for i, p := range samples() {
		for j, q := range append(few(i%9, 9), p) {
			checkMemory(t, p, q, xs[(i+j)%len(xs)], ons[(i+3*j)%len(ons)])
		}
	}
	for i, p := range small() {
		checkMemory(t, p, of(-1, 2), xs[i%len(xs)], ons[i%len(ons)])
		checkMemory(t, p, of(0, 1, 1), rational.Of(1), ons[i%len(ons)])
	}
}

// R3: all lists of the arguments may be the same memory, and those of the results are not.
func TestSharedArgument(t *testing.T) {
	digits := []uint32{6, 3}
	one := rat(false, digits, digits)
	p := api.Poly{one, one, one}
	clearAll(t, allCalls(p, p, one, api.Interval{Lo: one, Hi: one}))
	if !slices.Equal(digits, []uint32{6, 3}) || !sameRat(p[0], one) || !sameRat(p[1], one) || !sameRat(p[2], one) {
		t.Error("the argument is modified", digits, p)
	}
}

// R4: equal values are equal results, also where one list would be nil and the other one empty.
func TestPlainData(t *testing.T) {
	half := rational.Frac(1, 2)
	loose := api.Poly{rat(true, []uint32{0}, nil), rat(false, []uint32{2}, []uint32{4, 0}), {}}
	want := api.Poly{rational.Of(0), half}
	monomial, _ := Monomial(loose[1], 1)
	power, _ := Pow(loose, 1)
	composition, _ := Compose(loose, of(0, 1, 0))
	quotient, _, _ := DivMod(Mul(loose, of(-3, 1)), of(-3, 1))
	_, rest, _ := DivMod(loose, of(7, 0, 1))
	for i, got := range []api.Poly{
		Trim(loose), monomial, Add(loose, nil), Add(of(3), Sub(loose, of(3))), Sub(loose, api.Poly{{}}), Mul(loose, of(1, 0)), Mul(of(0, 1), api.Poly{half}),
		Scale(of(0, 2), rational.Frac(1, 4)), power, composition, quotient, rest, Derivative(api.Poly{half, {}, rational.Frac(1, 4)}),
	} {
		if !reflect.DeepEqual(got, want) {
			t.Errorf("%d: %#v is not %#v", i, got, want)
		}
	}
	// All zero polynomials are the same plain data.
	zero := api.Poly{{}}
	nothing, _ := Monomial(api.Rat{}, 2)
	cube, _ := Pow(zero, 3)
	empty, _ := Compose(zero, of(1, 1))
	root, _ := Compose(of(-1, 1), of(1))
	none, remainder, _ := DivMod(zero, of(1, 1))
	_, exact, _ := DivMod(of(-1, 0, 1), of(1, 1))
	for i, got := range []api.Poly{
		Trim(zero), nothing, Add(of(1), of(-1)), Sub(of(1, 2), of(1, 2)), Mul(zero, of(1, 1)), Scale(of(1, 1), api.Rat{}), Scale(zero, half), cube, empty, root,
		none, remainder, exact, Gcd(nil, zero), Monic(zero), Derivative(zero), Derivative(of(4, 0)), Squarefree(zero),
	} {
		if got != nil {
			t.Errorf("zero %d is %#v", i, got)
		}
	}
}
