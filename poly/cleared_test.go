package poly

import "testing"

// P5.3 and P5.4: what products and quotients are made of.
func TestSplit(t *testing.T) {
	for _, p := range append(samples(), small()...) {
		f := split(p)
		for _, c := range append(f.list, f.over) {
			if !canonicalRat(c) || len(c.Den) != 1 || c.Den[0] != 1 {
				t.Error("not an integer", p, c)
			}
		}
		expect(t, f.poly(), modelOf(p), "split", p)
	}
}

// P5.4: a common divisor modulo the prime is looked for before a true one.
func TestIsCoprime(t *testing.T) {
	for i, x := range []struct {
		got, want bool
	}{
		{isCoprime(of(1, 1), of(2, 1)), true}, {isCoprime(of(-7, 3, 5), of(1, 0, 0, 2)), true}, {isCoprime(of(1), of(3, 0, 1)), true}, {isCoprime(of(-2, 0, 1), of(-2, 1)), true},
		{isCoprime(of(-1, 0, 1), of(-1, 1)), false}, {isCoprime(of(0, 0, 1), of(0, 1)), false}, {isCoprime(of(1, 1), nil), false}, {isCoprime(nil, nil), false},
		// These have a common divisor modulo the prime alone.
		{isCoprime(of(0, 1), of(prime, 1)), false}, {isCoprime(of(1, 1), of(-prime-1, -1)), false},
		// A common divisor, which is a constant modulo the prime.
		{isCoprime(of(1, prime), of(2, 1+2*prime, prime)), false}, {isCoprime(of(2, 1+2*prime, prime), of(1, prime)), false}, {isCoprime(nil, of(1, prime)), false}, {isCoprime(of(1, prime), nil), false},
	} {
		if x.got != x.want {
			t.Error(i, x.got)
		}
	}
}
