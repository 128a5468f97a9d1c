package integer

import (
	"math/big"
	"slices"
	"testing"

	"dspcompiler/api"
)

// P2.2
func TestOneNumber(t *testing.T) {
	for _, a := range samples() {
		v := value(a)
		if got := Sign(a); got != v.Sign() {
			t.Error("Sign", a, got)
		}
		expect(t, Neg(a), new(big.Int).Neg(v), "Neg", a)
		expect(t, Abs(a), new(big.Int).Abs(v), "Abs", a)
	}
}

// P2.2
func TestTwoNumbers(t *testing.T) {
	for _, a := range samples() {
		for _, b := range samples() {
			v, w := value(a), value(b)
			if got := Compare(a, b); got != v.Cmp(w) {
				t.Error("Compare", a, b, got)
			}
			expect(t, Add(a, b), new(big.Int).Add(v, w), "Add", a, b)
			expect(t, Sub(a, b), new(big.Int).Sub(v, w), "Sub", a, b)
			expect(t, Mul(a, b), new(big.Int).Mul(v, w), "Mul", a, b)
			expect(t, Gcd(a, b), new(big.Int).GCD(nil, nil, new(big.Int).Abs(v), new(big.Int).Abs(w)), "Gcd", a, b)
		}
	}
}

// P2.2: a zero has no sign, whatever Neg says.
func TestNegativeZero(t *testing.T) {
	for _, zero := range []api.Int{{Neg: true}, {Neg: true, Mag: []uint32{0}}, {Neg: true, Mag: []uint32{0, 0}}} {
		if Sign(zero) != 0 || Compare(zero, Of(0)) != 0 || Compare(Of(0), zero) != 0 || Compare(zero, Of(-1)) != 1 || Compare(Of(1), zero) != 1 {
			t.Error("Sign and Compare", zero)
		}
		for _, got := range []api.Int{
			Neg(zero), Abs(zero), Add(zero, zero), Sub(zero, zero), Sub(zero, Of(0)), Mul(zero, Of(5)), Mul(Of(-5), zero), Gcd(zero, zero), Add(Of(3), Of(-3)),
		} {
			if !isNothing(got) {
				t.Error("not 0", zero, got)
			}
		}
		for _, got := range []api.Int{Add(zero, Of(3)), Add(Of(3), zero), Sub(Of(3), zero), Neg(Sub(zero, Of(3))), Gcd(zero, Of(-3)), Gcd(Of(3), zero)} {
			if !same(got, Of(3)) {
				t.Error("not 3", zero, got)
			}
		}
	}
}

// P2.3: the remainder is never negative, and less than the size of the divisor.
func TestDiv(t *testing.T) {
	for _, a := range samples() {
		for _, b := range samples() {
			v, w := value(a), value(b)
			q, r, e := Div(a, b)
			if w.Sign() == 0 {
				if e != api.ErrZero || !isNothing(q) || !isNothing(r) {
					t.Error("Div by 0", a, b, q, r, e)
				}
				continue
			}
			if e != api.OK {
				t.Error("Div", a, b, e)
			}
			// The division of math/big is Euclid's: its remainder is not negative.
			quotient, rest := new(big.Int).DivMod(v, w, new(big.Int))
			expect(t, q, quotient, "Div", a, b)
			expect(t, r, rest, "Div", a, b)
		}
	}
}

// P2.3
func TestSignsOfDiv(t *testing.T) {
	for _, x := range []struct{ a, b, quotient, rest int }{
		{7, 2, 3, 1}, {-7, 2, -4, 1}, {7, -2, -3, 1}, {-7, -2, 4, 1},
		{8, 2, 4, 0}, {-8, 2, -4, 0}, {8, -2, -4, 0}, {-8, -2, 4, 0},
		{1, 5, 0, 1}, {-1, 5, -1, 4}, {1, -5, 0, 1}, {-1, -5, 1, 4},
		{0, 5, 0, 0}, {0, -5, 0, 0}, {5, 5, 1, 0}, {-5, 5, -1, 0},
		{most, -1, -most, 0}, {least, least, 1, 0}, {-1, most, -1, most - 1}, {digit, digit + 1, 0, digit}, {-1, -digit - 1, 1, digit},
	} {
		q, r, e := Div(Of(x.a), Of(x.b))
		if e != api.OK || !same(q, Of(x.quotient)) || !same(r, Of(x.rest)) {
			t.Error("Div", x, q, r, e)
		}
	}
	if q, r, e := Div(Of(least), Of(-1)); e != api.OK || Format(q) != "9223372036854775808" || !isNothing(r) {
		t.Error("Div of the least int by -1", q, r, e)
	}
}

// Consequences: the laws of a ring.
func TestLaws(t *testing.T) {
	numbers := samples()
	for i, a := range numbers {
		for j := i % 3; j < len(numbers); j += 3 {
			b, c := numbers[j], numbers[(i+7*j)%len(numbers)]
			if !same(Add(a, b), Add(b, a)) || !same(Mul(a, b), Mul(b, a)) {
				t.Error("order", a, b)
			}
			if !same(Add(a, Add(b, c)), Add(Add(a, b), c)) || !same(Mul(a, Mul(b, c)), Mul(Mul(a, b), c)) {
				t.Error("groups", a, b, c)
			}
			if !same(Mul(a, Add(b, c)), Add(Mul(a, b), Mul(a, c))) || !same(Sub(a, b), Add(a, Neg(b))) {
				t.Error("sums in products", a, b, c)
			}
		}
	}
}

// allCalls returns the results of all calls with a and b that return integers.
func allCalls(a, b api.Int) []api.Int {
	q, r, _ := Div(a, b)
	Valid(a)
	Small(a)
	Sign(a)
	Compare(a, b)
	parsed, _ := Parse(Format(a))
	return []api.Int{
		Trim(a), Of(7), Of(-7), Neg(a), Abs(a), Add(a, b), Add(b, a), Sub(a, b), Sub(b, a), Mul(a, b), q, r, Gcd(a, b), Gcd(b, a), parsed,
	}
}

// padded returns a copy of a, and the memory of its digits with one more behind their end.
func padded(a api.Int) (api.Int, []uint32) {
	memory := append(slices.Clone(a.Mag), 77)
	return api.Int{Neg: a.Neg, Mag: memory[:len(a.Mag)]}, memory
}

// R3: arguments stay as they are, also behind their ends, and no result shares memory with them or with another result.
func TestMemory(t *testing.T) {
	for _, a := range samples() {
		for _, b := range append(samples()[:24], a) {
			x, memoryX := padded(a)
			y, memoryY := padded(b)
			first := allCalls(x, y)
			wanted := make([]api.Int, len(first))
			for i, number := range first {
				wanted[i] = api.Int{Neg: number.Neg, Mag: slices.Clone(number.Mag)}
			}
			for i, number := range first {
				if !same(number, wanted[i]) {
					t.Fatal("results share memory", a, b, i)
				}
				clear(number.Mag[:cap(number.Mag)])
			}
			if !slices.Equal(memoryX, append(slices.Clone(a.Mag), 77)) || !slices.Equal(memoryY, append(slices.Clone(b.Mag), 77)) {
				t.Fatal("an argument is modified", a, b, x, y)
			}
			for i, number := range allCalls(x, y) {
				if !same(number, wanted[i]) {
					t.Fatal("the second result differs", a, b, i)
				}
			}
		}
	}
}
