package nat

import (
	"math/bits"

	"dspcompiler/api"
)

// BitLen returns the least n for which a is less than 2^n.
func BitLen(a []uint32) int {
	a = cut(a)
	if len(a) == 0 {
		return 0
	}
	return len(a)*digitBits - bits.LeadingZeros32(a[len(a)-1])
}

// Shift returns a times 2^n, rounded down; or 0 if n is greater than MaxShift.
func Shift(a []uint32, n int) []uint32 {
	if n > api.MaxShift {
		return nil
	}
	if n < 0 {
		// The negation of the least int is itself, but is right as a number without a sign.
		return lower(a, uint(-n))
	}
	return raise(a, uint(n))
}

// raise returns a times 2^n, for every n.
func raise(a []uint32, n uint) []uint32 {
	a = cut(a)
	if len(a) == 0 {
		return nil
	}
	whole := int(n / digitBits)
	raised := make([]uint32, whole, whole+len(a)+1)
	return normal(append(raised, raiseBits(a, int(n%digitBits))...))
}

// lower returns the quotient of a and 2^n, rounded down.
func lower(a []uint32, n uint) []uint32 {
	a = cut(a)
	if n/digitBits >= uint(len(a)) {
		return nil
	}
	return normal(lowerBits(a[n/digitBits:], int(n%digitBits)))
}

// raiseBits returns a times 2^n in one digit more; n is from 0 to 31.
func raiseBits(a []uint32, n int) []uint32 {
	raised := make([]uint32, len(a)+1)
	carry := uint32(0)
	for i, x := range a {
		raised[i] = x<<n | carry
		carry = x >> (digitBits - n)
	}
	raised[len(a)] = carry
	return raised
}

// lowerBits returns the quotient of a and 2^n in as many digits; n is from 0 to 31.
func lowerBits(a []uint32, n int) []uint32 {
	lowered := make([]uint32, len(a))
	for i, x := range a {
		lowered[i] = x>>n | uint32(digit(a, i+1)<<(digitBits-n))
	}
	return lowered
}

// Pow returns the n-th power of a; or ErrArg if n is not from 0 to MaxPower.
func Pow(a []uint32, n int) ([]uint32, api.Errno) {
	if n < 0 || n > api.MaxPower {
		return nil, api.ErrArg
	}
	return power(a, n), api.OK
}

func power(a []uint32, n int) []uint32 {
	p := []uint32{1}
	for i := bits.Len(uint(n)) - 1; i >= 0; i-- {
		p = Mul(p, p)
		if n>>i&1 == 1 {
			p = Mul(p, a)
		}
	}
	return p
}

// Root returns the greatest number whose n-th power is at most a; or ErrArg if n is not from 1 to MaxPower.
func Root(a []uint32, n int) ([]uint32, api.Errno) {
	if n < 1 || n > api.MaxPower {
		return nil, api.ErrArg
	}
	return root(a, n), api.OK
}

// root returns the n-th root of a, rounded down.
func root(a []uint32, n int) []uint32 {
	size := BitLen(a)
	if size <= n {
		// a is less than 2^n, so that the root is 0 or 1.
		return fromWord(uint64(min(size, 1)))
	}
	x := above(a, n, size/n/2)
	// Newton's method goes down from a number above the root and stops at the root rounded down.
	for {
		next := newton(x, a, n)
		if Compare(next, x) >= 0 {
			return x
		}
		x = next
	}
}

// above returns a number that is greater than the n-th root of a; its first half comes from the root of a without low digits, so that few steps of Newton's method remain. half is the number of bits of the other half.
func above(a []uint32, n, half int) []uint32 {
	if half == 0 {
		// a has fewer than 2 n bits.
		return []uint32{4}
	}
	first := root(lower(a, uint(n*half)), n)
	return raise(Add(first, []uint32{1}), uint(half))
}

// newton returns ((n - 1) x + a / x^(n-1)) / n, rounded down.
func newton(x, a []uint32, n int) []uint32 {
	q, _ := divide(cut(a), power(x, n-1))
	sum := Add(Mul(x, []uint32{uint32(n - 1)}), q)
	divideByDigit(sum, uint32(n))
	return normal(sum)
}
