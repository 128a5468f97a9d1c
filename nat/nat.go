// Package nat is layer 1: natural numbers (shared/doc/01-nat.md).
package nat

import (
	"cmp"
	"slices"
)

// digitBits is the number of bits of a digit.
const digitBits = 32

// cut returns a without leading zeros, in the memory of a.
func cut(a []uint32) []uint32 {
	n := len(a)
	for n > 0 && a[n-1] == 0 {
		n--
	}
	return a[:n]
}

// normal is cut for results: zero is always nil, so that equal results are equal as plain data.
func normal(a []uint32) []uint32 {
	a = cut(a)
	if len(a) == 0 {
		return nil
	}
	return a
}

// digit returns the digit of a at place i, which is 0 beyond the end.
func digit(a []uint32, i int) uint64 {
	if i < len(a) {
		return uint64(a[i])
	}
	return 0
}

// word returns the number of a list of at most two digits.
func word(a []uint32) uint64 {
	return digit(a, 1)<<digitBits | digit(a, 0)
}

// fromWord returns the digits of a number.
func fromWord(n uint64) []uint32 {
	return normal([]uint32{uint32(n), uint32(n >> digitBits)})
}

// Normal reports whether a is empty or its last digit is not 0.
func Normal(a []uint32) bool {
	return len(a) == 0 || a[len(a)-1] != 0
}

// Trim returns the normal list with the value of a.
func Trim(a []uint32) []uint32 {
	return normal(slices.Clone(a))
}

// Compare returns -1, 0 or 1, as a is less than, equal to or greater than b.
func Compare(a, b []uint32) int {
	a, b = cut(a), cut(b)
	if len(a) != len(b) {
		return cmp.Compare(len(a), len(b))
	}
	for i := len(a) - 1; i >= 0; i-- {
		if a[i] != b[i] {
			return cmp.Compare(a[i], b[i])
		}
	}
	return 0
}

// Add returns the sum of a and b.
func Add(a, b []uint32) []uint32 {
	a, b = cut(a), cut(b)
	if len(a) < len(b) {
		a, b = b, a
	}
	sum := make([]uint32, len(a)+1)
	carry := uint64(0)
	for i, x := range a {
		carry += uint64(x) + digit(b, i)
		sum[i] = uint32(carry)
		carry >>= digitBits
	}
	sum[len(a)] = uint32(carry)
	return normal(sum)
}

// Sub returns the difference of a and b, or 0 if b is greater than a.
func Sub(a, b []uint32) []uint32 {
	if Compare(a, b) <= 0 {
		return nil
	}
	a = cut(a)
	rest := make([]uint32, len(a))
	borrow := uint64(0)
	for i, x := range a {
		d := uint64(x) - digit(b, i) - borrow
		rest[i] = uint32(d)
		borrow = d >> 63
	}
	return normal(rest)
}

// Mul returns the product of a and b.
func Mul(a, b []uint32) []uint32 {
	a, b = cut(a), cut(b)
	product := make([]uint32, len(a)+len(b))
	for i, x := range a {
		product[i+len(b)] = addProduct(product[i:i+len(b)], b, x)
	}
	return normal(product)
}

// addProduct adds x times b to the digits of z, which are as many as those of b, and returns the carry.
func addProduct(z, b []uint32, x uint32) uint32 {
	carry := uint64(0)
	for i, y := range b {
		// The greatest case is (2^32 - 1)^2 + 2 (2^32 - 1) = 2^64 - 1: it does not wrap around.
		carry += uint64(x)*uint64(y) + uint64(z[i])
		z[i] = uint32(carry)
		carry >>= digitBits
	}
	return uint32(carry)
}
