package nat

import (
	"math/big"
	"slices"
	"testing"
)

func checkGcd(t *testing.T, a, b []uint32) {
	t.Helper()
	expect(t, Gcd(a, b), new(big.Int).GCD(nil, nil, value(a), value(b)), "Gcd", a, b)
}

// P1.3
func TestGcd(t *testing.T) {
	for _, x := range []struct{ a, b, want []uint32 }{
		{nil, nil, nil},
		{nil, []uint32{0}, nil},
		{nil, []uint32{5, 0}, []uint32{5}},
		{[]uint32{1, 2, 3, 4}, []uint32{0, 0}, []uint32{1, 2, 3, 4}},
		{[]uint32{12, 0}, []uint32{18}, []uint32{6}},
		{[]uint32{0, 0, 0, 6}, []uint32{0, 4, 0}, []uint32{0, 4}},
	} {
		if got := Gcd(x.a, x.b); !slices.Equal(got, x.want) {
			t.Error("Gcd", x.a, x.b, got)
		}
		if got := Gcd(x.b, x.a); !slices.Equal(got, x.want) {
			t.Error("Gcd", x.b, x.a, got)
		}
	}
	for _, a := range samples() {
		for _, b := range samples() {
			checkGcd(t, a, b)
		}
	}
}

// P1.3: common divisors of all lengths, of numbers that are near to each other or not.
func TestGcdOfMultiples(t *testing.T) {
	g := generator(8)
	for range 1500 {
		d := g.list(1 + g.next(8))
		a, b := g.list(1+g.next(12)), g.list(1+g.next(12))
		checkGcd(t, Mul(a, d), Mul(b, d))
		checkGcd(t, Mul(a, d), Mul(Add(a, []uint32{1}), d))
		checkGcd(t, Mul(a, b), Add(Mul(a, d), []uint32{1}))
	}
}

// P1.3: numbers that make the algorithm of Euclid long, by their quotients 1, and short, by great quotients.
func TestGcdOfContinuedFractions(t *testing.T) {
	for _, quotients := range [][]uint32{{1}, {2}, {1, most}, {most}, {1, 1, 1, 1 << 31}, {3, 1, 1 << 16}} {
		a, b := []uint32{1}, []uint32(nil)
		for i := range 60 {
			a, b = Add(Mul(a, quotients[i%len(quotients):][:1]), b), a
			checkGcd(t, a, b)
			checkGcd(t, Mul(a, []uint32{6, 7, 8}), Mul(b, []uint32{6, 7, 8}))
		}
	}
}
