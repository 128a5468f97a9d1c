package integer

import (
	"dspcompiler/api"
	"dspcompiler/nat"
)

// Sign returns -1, 0 or 1, as a is less than, equal to or greater than 0.
func Sign(a api.Int) int {
	switch {
	case isZero(a):
		return equal
	case a.Neg:
		return less
	}
	return greater
}

// Compare returns -1, 0 or 1, as a is less than, equal to or greater than b.
func Compare(a, b api.Int) int {
	negative := isNegative(a)
	switch {
	case negative == isNegative(b):
		if negative {
			a, b = b, a
		}
		return nat.Compare(a.Mag, b.Mag)
	case negative:
		return less
	}
	return greater
}

// Neg returns the negation of a.
func Neg(a api.Int) api.Int {
	return signed(!a.Neg, nat.Trim(a.Mag))
}

// Abs returns the absolute value of a.
func Abs(a api.Int) api.Int {
	return signed(false, nat.Trim(a.Mag))
}

// Add returns the sum of a and b.
func Add(a, b api.Int) api.Int {
	switch {
	case a.Neg == b.Neg:
		return signed(a.Neg, nat.Add(a.Mag, b.Mag))
	case nat.Compare(a.Mag, b.Mag) == less:
		return signed(b.Neg, nat.Sub(b.Mag, a.Mag))
	}
	return signed(a.Neg, nat.Sub(a.Mag, b.Mag))
}

// Sub returns the difference of a and b.
func Sub(a, b api.Int) api.Int {
	b.Neg = !b.Neg
	return Add(a, b)
}

// Mul returns the product of a and b.
func Mul(a, b api.Int) api.Int {
	return signed(a.Neg != b.Neg, nat.Mul(a.Mag, b.Mag))
}

// Div returns the quotient of a and b and the remainder, which is never negative; or ErrZero if b is 0.
func Div(a, b api.Int) (api.Int, api.Int, api.Errno) {
	quotient, rest, e := nat.DivMod(a.Mag, b.Mag)
	if e != api.OK {
		return api.Int{}, api.Int{}, e
	}
	if a.Neg && len(rest) > 0 {
		// One more divisor lifts the negative remainder above 0.
		quotient, rest = nat.Add(quotient, []uint32{1}), nat.Sub(b.Mag, rest)
	}
	return signed(a.Neg != b.Neg, quotient), signed(false, rest), api.OK
}

// Gcd returns the greatest common divisor of a and b, which is not negative; that of 0 and b is the absolute value of b.
func Gcd(a, b api.Int) api.Int {
	return signed(false, nat.Gcd(a.Mag, b.Mag))
}
