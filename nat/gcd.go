package nat

import (
	"math/bits"
	"slices"
)

// Gcd returns the greatest common divisor of a and b; that of 0 and b is b.
func Gcd(a, b []uint32) []uint32 {
	a, b = cut(a), cut(b)
	if Compare(a, b) < 0 {
		a, b = b, a
	}
	x, y := slices.Clone(a), make([]uint32, len(a))
	copy(y, b)
	// x is normal and not less than y, which has as many digits as x and so may have leading zeros.
	for len(x) > 2 && len(cut(y)) > 0 {
		if c, ok := simulate(x, y); ok {
			c.apply(x, y)
			x = cut(x)
		} else {
			divisor := cut(y)
			_, rest := divide(x, divisor)
			x, y = divisor, rest
		}
		y = y[:len(x)]
	}
	if len(x) > 2 {
		return x
	}
	return fromWord(gcdWords(word(x), word(y)))
}

func gcdWords(x, y uint64) uint64 {
	for y != 0 {
		x, y = y, x%y
	}
	return x
}

// cofactors tell what some steps of Euclid's algorithm make of x and y: after an odd number of steps u0 x - v0 y and v1 y - u1 x, after an even one the negation of both.
type cofactors struct {
	u0, u1, v0, v1 uint64
	odd            bool
}

// simulate follows Euclid's algorithm on the highest 64 bits of x and y, as far as the steps are certainly those of x and y themselves (Lehmer's algorithm, with Collins's condition). It reports false if there is no such step. x has at least three digits, is normal and not less than y.
func simulate(x, y []uint32) (cofactors, bool) {
	n := len(x)
	up := bits.LeadingZeros32(x[n-1])
	p, q := window(x, n, up), window(y, n, up)
	c := cofactors{u1: 1}
	u, v := uint64(0), uint64(1)
	// The cofactors stay below 2^32, since v is at most q here, and v times p at most the first p.
	for q >= v && p-q >= c.v1+v {
		t := p / q
		p, q = q, p%q
		c.u0, c.u1, u = c.u1, u, c.u1+t*u
		c.v0, c.v1, v = c.v1, v, c.v1+t*v
		c.odd = !c.odd
	}
	return c, c.v0 != 0
}

// window returns the 64 bits of a that follow the highest up bits of digit n - 1.
func window(a []uint32, n, up int) uint64 {
	return (digit(a, n-1)<<digitBits|digit(a, n-2))<<up | digit(a, n-3)>>(digitBits-up)
}

// apply replaces x and y, which have equally many digits, by what the steps make of them.
func (c cofactors) apply(x, y []uint32) {
	var first, second difference
	for i := range x {
		p, q := uint64(x[i]), uint64(y[i])
		if c.odd {
			x[i] = first.next(c.u0*p, c.v0*q)
			y[i] = second.next(c.v1*q, c.u1*p)
		} else {
			x[i] = first.next(c.v0*q, c.u0*p)
			y[i] = second.next(c.u1*p, c.v1*q)
		}
	}
}

// difference is what two sums and their difference carry from one digit to the next.
type difference struct{ plus, minus, borrow uint64 }

// next adds to both sums and returns the next digit of their difference.
func (d *difference) next(plus, minus uint64) uint32 {
	plus += d.plus
	minus += d.minus
	rest := uint64(uint32(plus)) - uint64(uint32(minus)) - d.borrow
	*d = difference{plus >> digitBits, minus >> digitBits, rest >> 63}
	return uint32(rest)
}
