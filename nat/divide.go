package nat

import (
	"math/bits"
	"slices"

	"dspcompiler/api"
)

// DivMod returns the quotient of a and b, rounded down, and the remainder; or ErrZero if b is 0.
func DivMod(a, b []uint32) ([]uint32, []uint32, api.Errno) {
	a, b = cut(a), cut(b)
	if len(b) == 0 {
		return nil, nil, api.ErrZero
	}
	q, r := divide(a, b)
	return normal(q), normal(r), api.OK
}

// divide returns the quotient and the remainder of normal lists in new memory; b is not 0. The results may have leading zeros: the remainder has as many digits as b.
func divide(a, b []uint32) (q, r []uint32) {
	switch {
	case len(a) < len(b):
		r = make([]uint32, len(b))
		copy(r, a)
		return nil, r
	case len(b) == 1:
		q = slices.Clone(a)
		return q, []uint32{divideByDigit(q, b[0])}
	}
	return divideLong(a, b)
}

// divideByDigit replaces a by its quotient by d and returns the remainder.
func divideByDigit(a []uint32, d uint32) uint32 {
	rest := uint64(0)
	for i := len(a) - 1; i >= 0; i-- {
		rest = rest<<digitBits | uint64(a[i])
		a[i] = uint32(rest / uint64(d))
		rest %= uint64(d)
	}
	return uint32(rest)
}

// divideLong is the long division of lists that are normal, by at least two digits; a has no fewer digits than b.
func divideLong(a, b []uint32) (q, r []uint32) {
	// With the highest bit of the divisor set, a digit of the quotient is guessed at most one too great.
	up := bits.LeadingZeros32(b[len(b)-1])
	n := len(b)
	rest, by := raiseBits(a, up), raiseBits(b, up)[:n]
	q = make([]uint32, len(a)-n+1)
	for i := len(a) - n; i >= 0; i-- {
		part := rest[i : i+n+1]
		q[i] = guess(part, by)
		if subProduct(part, by, q[i]) {
			q[i]--
			addProduct(part[:n], by, 1)
		}
	}
	return q, lowerBits(rest[:n], up)
}

// guess returns the quotient of part, which has one digit more, and by, or one more than it; from the three and the two highest digits.
func guess(part, by []uint32) uint32 {
	n := len(by)
	high := uint64(part[n])<<digitBits | uint64(part[n-1])
	first, second := uint64(by[n-1]), uint64(by[n-2])
	q, rest := high/first, high%first
	for q>>digitBits != 0 || q*second > rest<<digitBits|uint64(part[n-2]) {
		q--
		rest += first
		if rest>>digitBits != 0 {
			break
		}
	}
	return uint32(q)
}

// subProduct subtracts q times by from part, which has one digit more, and reports whether the difference is negative. The highest digit of part is only read: it is not part of the remainder, whose other digits are right modulo the power of 2 that they have room for.
func subProduct(part, by []uint32, q uint32) bool {
	borrow := uint64(0)
	for i, y := range by {
		borrow += uint64(q) * uint64(y)
		low := uint32(borrow)
		borrow >>= digitBits
		if part[i] < low {
			borrow++
		}
		part[i] -= low
	}
	return uint64(part[len(by)]) < borrow
}
