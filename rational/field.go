package rational

import (
	"dspcompiler/api"
	"dspcompiler/integer"
	"dspcompiler/nat"
)

// Sign returns -1, 0 or 1, as a is less than, equal to or greater than 0.
func Sign(a api.Rat) int {
	return integer.Sign(read(a).num)
}

// Compare returns -1, 0 or 1, as a is less than, equal to or greater than b.
func Compare(a, b api.Rat) int {
	f, g := read(a), read(b)
	return integer.Compare(integer.Mul(f.num, g.den), integer.Mul(g.num, f.den))
}

// Neg returns the negation of a.
func Neg(a api.Rat) api.Rat {
	return read(a).negation().result()
}

// Abs returns the absolute value of a.
func Abs(a api.Rat) api.Rat {
	f := read(a)
	return fraction{integer.Abs(f.num), f.den}.result()
}

// Add returns the sum of a and b.
func Add(a, b api.Rat) api.Rat {
	return read(a).plus(read(b)).result()
}

// Sub returns the difference of a and b.
func Sub(a, b api.Rat) api.Rat {
	return read(a).plus(read(b).negation()).result()
}

// Mul returns the product of a and b.
func Mul(a, b api.Rat) api.Rat {
	f, g := read(a), read(b)
	return fraction{integer.Mul(f.num, g.num), integer.Mul(f.den, g.den)}.result()
}

// Div returns the quotient of a and b, or ErrZero if b is 0.
func Div(a, b api.Rat) (api.Rat, api.Errno) {
	f, g := read(a), read(b)
	return Make(integer.Mul(f.num, g.den), integer.Mul(f.den, g.num))
}

// Pow returns the n-th power of a, which is 1 for n = 0; or ErrArg if n is not from 0 to MaxPower.
func Pow(a api.Rat, n int) (api.Rat, api.Errno) {
	f := read(a).reduce()
	num, e := nat.Pow(f.num.Mag, n)
	if e != api.OK {
		return api.Rat{}, e
	}
	den, _ := nat.Pow(f.den.Mag, n)
	// Powers of numbers without a common divisor have none.
	power := fraction{api.Int{Neg: f.num.Neg && n%2 == 1, Mag: num}, api.Int{Mag: den}}
	return lowest{power}.rat(), api.OK
}

// negation returns the negation of f.
func (f fraction) negation() fraction {
	return fraction{integer.Neg(f.num), f.den}
}

// plus returns the sum of f and g.
func (f fraction) plus(g fraction) fraction {
	if integer.Compare(f.den, g.den) == 0 {
		return fraction{integer.Add(f.num, g.num), f.den}
	}
	num := integer.Add(integer.Mul(f.num, g.den), integer.Mul(g.num, f.den))
	return fraction{num, integer.Mul(f.den, g.den)}
}
