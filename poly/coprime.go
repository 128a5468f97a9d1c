package poly

import (
	"slices"

	"dspcompiler/api"
)

// prime is the greatest prime number of 32 bits.
const prime = 1<<32 - 5

// isCoprime reports whether two primitive lists of integers have no common divisor modulo a prime, and so have none at all. Most polynomials without a common divisor need no remainders with long coefficients thus; false says nothing.
func isCoprime(a, b api.Poly) bool {
	f, g := residues(a), residues(b)
	if len(f) < len(a) || len(g) < len(b) {
		// The leading coefficient of a common divisor could be lost, too.
		return false
	}
	for len(g) > 0 {
		f, g = g, remainder(f, g)
	}
	return len(f) == 1
}

// residues returns the coefficients of a modulo the prime, without the zeros at the end.
func residues(a api.Poly) []uint64 {
	var list []uint64
	for _, c := range a {
		list = append(list, residue(c.Num))
	}
	return withoutZeros(list)
}

// residue returns n modulo the prime.
func residue(n api.Int) uint64 {
	var rest uint64
	for _, digit := range slices.Backward(n.Mag) {
		rest = (rest<<32 | uint64(digit)) % prime
	}
	if n.Neg {
		return (prime - rest) % prime
	}
	return rest
}

func withoutZeros(list []uint64) []uint64 {
	for len(list) > 0 && list[len(list)-1] == 0 {
		list = list[:len(list)-1]
	}
	return list
}

// remainder returns the remainder of f and g modulo the prime, in the memory of f. The last element of g is not 0.
func remainder(f, g []uint64) []uint64 {
	reciprocal := inverse(g[len(g)-1])
	for len(f) >= len(g) {
		shift := len(f) - len(g)
		weight := prime - f[len(f)-1]*reciprocal%prime
		for i, c := range g {
			f[shift+i] = (f[shift+i] + weight*c) % prime
		}
		f = withoutZeros(f)
	}
	return f
}

// inverse returns the inverse of x modulo the prime, by Fermat's little theorem.
func inverse(x uint64) uint64 {
	power := uint64(1)
	for n := uint64(prime - 2); n > 0; n /= 2 {
		if n%2 == 1 {
			power = power * x % prime
		}
		x = x * x % prime
	}
	return power
}
