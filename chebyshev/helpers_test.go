package chebyshev

import (
	"math/big"
	"slices"
	"testing"

	"dspcompiler/api"
	"dspcompiler/rational"
)

const digit = 1<<32 - 1

// natural returns the value of a list of digits by the arithmetic of math/big, which the tests compare with.
func natural(a []uint32) *big.Int {
	v := new(big.Int)
	for _, x := range slices.Backward(a) {
		v.Lsh(v, 32)
		v.Or(v, new(big.Int).SetUint64(uint64(x)))
	}
	return v
}

// value returns the value of a number, which is 0 if its denominator is.
func value(a api.Rat) *big.Rat {
	num, den := natural(a.Num.Mag), natural(a.Den)
	if den.Sign() == 0 {
		return new(big.Rat)
	}
	if a.Num.Neg {
		num.Neg(num)
	}
	return new(big.Rat).SetFrac(num, den)
}

// digits returns the digits of the absolute value of an integer.
func digits(n *big.Int) []uint32 {
	var list []uint32
	for v := new(big.Int).Abs(n); v.Sign() > 0; v.Rsh(v, 32) {
		list = append(list, uint32(new(big.Int).And(v, big.NewInt(digit)).Uint64()))
	}
	return list
}

// isNormal reports whether a list of digits has no leading zeros.
func isNormal(a []uint32) bool {
	return len(a) == 0 || a[len(a)-1] != 0
}

// canonicalRat is written from the definition, without rational.Valid.
func canonicalRat(a api.Rat) bool {
	if !isNormal(a.Num.Mag) || !isNormal(a.Den) || len(a.Den) == 0 {
		return false
	}
	if len(a.Num.Mag) == 0 {
		return !a.Num.Neg && len(a.Den) == 1 && a.Den[0] == 1
	}
	divisor := new(big.Int).GCD(nil, nil, natural(a.Num.Mag), natural(a.Den))
	return divisor.Cmp(big.NewInt(1)) == 0
}

// canonical is written from the definition, without poly.Valid.
func canonical(p api.Poly) bool {
	for _, c := range p {
		if !canonicalRat(c) {
			return false
		}
	}
	return len(p) == 0 || len(p[len(p)-1].Num.Mag) > 0
}

// expect checks that a result is valid and is the polynomial that is wanted.
func expect(t *testing.T, got api.Poly, e api.Errno, want model, call string, arguments ...any) {
	t.Helper()
	if e != api.OK || !canonical(got) || !modelOf(got).equals(want) {
		t.Errorf("%s%v is %v, %v, not %v", call, arguments, got, e, want)
	}
}

// expectError checks that a result is the error that is wanted, together with nothing.
func expectError(t *testing.T, got []api.Rat, e, want api.Errno, call string, arguments ...any) {
	t.Helper()
	if got != nil || e != want {
		t.Errorf("%s%v is %v, %v, not the error %v", call, arguments, got, e, want)
	}
}

// sameRat compares two valid numbers as plain data.
func sameRat(a, b api.Rat) bool {
	return a.Num.Neg == b.Num.Neg && slices.Equal(a.Num.Mag, b.Num.Mag) && slices.Equal(a.Den, b.Den)
}

// same compares two lists of valid numbers as plain data.
func same(p, q []api.Rat) bool {
	return slices.EqualFunc(p, q, sameRat)
}

// rat returns a number as it stands.
func rat(neg bool, num, den []uint32) api.Rat {
	return api.Rat{Num: api.Int{Neg: neg, Mag: num}, Den: den}
}

// of returns a list of integers, as they stand.
func of(numbers ...int) api.Poly {
	var p api.Poly
	for _, c := range numbers {
		p = append(p, rational.Of(c))
	}
	return p
}

// over returns a list of integers over a common denominator.
func over(den int, numbers ...int) api.Poly {
	var p api.Poly
	for _, c := range numbers {
		p = append(p, rational.Frac(c, den))
	}
	return p
}

// long returns a polynomial of a degree: 3 and that power.
func long(degree int) api.Poly {
	p := make(api.Poly, degree+1)
	p[degree] = rational.Of(1)
	p[0] = rational.Of(3)
	return p
}

// dense returns a polynomial of a degree, all of whose coefficients are fractions that are not 0.
func dense(degree int) api.Poly {
	var p api.Poly
	for i := range degree + 1 {
		p = append(p, rational.Frac(7*i%11-12, 1+i%5))
	}
	return p
}

// looseZeros are numbers that are 0.
func looseZeros() []api.Rat {
	return []api.Rat{{}, rat(true, []uint32{0}, nil), rat(true, []uint32{5}, []uint32{0}), rational.Of(0)}
}

// loose returns p with other numbers that have the same values, and with zeros at its end.
func loose(p api.Poly) api.Poly {
	return append(looseList(p), looseZeros()...)
}

// looseList returns other numbers that have the same values.
func looseList(list []api.Rat) []api.Rat {
	var others []api.Rat
	for _, c := range list {
		num, den := natural(c.Num.Mag), natural(c.Den)
		num.Mul(num, big.NewInt(6))
		den.Mul(den, big.NewInt(6))
		others = append(others, rat(c.Num.Neg, append(digits(num), 0), append(digits(den), 0, 0)))
	}
	return others
}

// samples are polynomials of several degrees, in all forms.
func samples() []api.Poly {
	list := []api.Poly{
		of(1), of(-5, 0), over(3, 2), of(0, 1), of(0, -1), of(3, 1), of(7, -2), over(6, -2, 6), of(0, 0, 1), of(1, 0, 1), of(1, -2, 1), of(0, -3, 0, 4), of(0, 0, 0, 0, 0, 1), of(1, 0, -8, 0, 8, 0, 0), of(2, 0, 7), of(1, -3, 2, 5),
		over(1155, 385, 231, -165, 105), over(4, 1, 0, -3, 7, 2), dense(9), dense(20),
		{rat(true, []uint32{1, 2, 3}, []uint32{3, 2, 1}), {}, rat(false, []uint32{digit, 0, digit}, []uint32{digit, digit}), rational.Of(1)},
		{rat(false, []uint32{12, 0}, []uint32{4, 0}), rat(true, []uint32{5}, nil), rat(false, []uint32{9}, []uint32{3})},
		{rat(true, []uint32{5}, nil), {}, rat(false, []uint32{0, 1}, []uint32{3})},
	}
	for i := range 7 {
		list = append(list, loose(list[3*i+2]))
	}
	return list
}

// zeros are the forms of the zero polynomial.
func zeros() []api.Poly {
	return []api.Poly{nil, {}, of(0), of(0, 0), {{}}, looseZeros()}
}

// mirrored returns the symmetric sequence that ends with the list, whose first element is in its middle.
func mirrored(list []api.Rat) []api.Rat {
	h := slices.Clone(list[1:])
	slices.Reverse(h)
	return append(h, list...)
}
