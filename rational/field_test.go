package rational

import (
	"math"
	"math/big"
	"testing"

	"dspcompiler/api"
)

// P3.2
func TestOneNumber(t *testing.T) {
	for _, a := range samples() {
		v := value(a)
		if got := Sign(a); got != v.Sign() {
			t.Error("Sign", a, got)
		}
		expect(t, Neg(a), new(big.Rat).Neg(v), "Neg", a)
		expect(t, Abs(a), new(big.Rat).Abs(v), "Abs", a)
	}
}

// P3.2
func TestTwoNumbers(t *testing.T) {
	for _, a := range samples() {
		for _, b := range samples() {
			v, w := value(a), value(b)
			if got := Compare(a, b); got != v.Cmp(w) {
				t.Error("Compare", a, b, got)
			}
			expect(t, Add(a, b), new(big.Rat).Add(v, w), "Add", a, b)
			expect(t, Sub(a, b), new(big.Rat).Sub(v, w), "Sub", a, b)
			expect(t, Mul(a, b), new(big.Rat).Mul(v, w), "Mul", a, b)
		}
	}
}

// P3.2: small fractions, all of them with all of them.
func TestSmallFractions(t *testing.T) {
	for i := -6; i <= 6; i++ {
		for j := 1; j <= 6; j++ {
			for k := -6; k <= 6; k++ {
				for l := 1; l <= 6; l++ {
					a, b := Frac(i, j), Frac(k, l)
					v, w := big.NewRat(int64(i), int64(j)), big.NewRat(int64(k), int64(l))
					expect(t, Add(a, b), new(big.Rat).Add(v, w), "Add", a, b)
					expect(t, Sub(a, b), new(big.Rat).Sub(v, w), "Sub", a, b)
					expect(t, Mul(a, b), new(big.Rat).Mul(v, w), "Mul", a, b)
					if got := Compare(a, b); got != v.Cmp(w) {
						t.Error("Compare", a, b, got)
					}
				}
			}
		}
	}
}

// P3.2
func TestDiv(t *testing.T) {
	for _, a := range samples() {
		for _, b := range samples() {
			v, w := value(a), value(b)
			got, e := Div(a, b)
			if w.Sign() == 0 {
				if e != api.ErrZero || !isNothing(got) {
					t.Error("Div by 0", a, b, got, e)
				}
				continue
			}
			if e != api.OK {
				t.Error("Div", a, b, e)
			}
			expect(t, got, new(big.Rat).Quo(v, w), "Div", a, b)
		}
	}
	// A denominator 0 makes a number 0, by which nothing is divided.
	for _, zero := range []api.Rat{{}, Of(0), rat(true, []uint32{3}, nil), rat(false, []uint32{3}, []uint32{0}), rat(true, []uint32{0}, []uint32{3})} {
		for _, a := range []api.Rat{Of(0), Of(1), Frac(-1, 3), {}} {
			if got, e := Div(a, zero); e != api.ErrZero || !isNothing(got) {
				t.Error("Div by 0", a, zero, got, e)
			}
		}
	}
}

// P3.2
func TestPow(t *testing.T) {
	for _, a := range samples() {
		v, want := value(a), big.NewRat(1, 1)
		for n := range 8 {
			got, e := Pow(a, n)
			if e != api.OK {
				t.Error("Pow", a, n, e)
			}
			expect(t, got, want, "Pow", a, n)
			want.Mul(want, v)
		}
	}
	for _, x := range []struct {
		a    api.Rat
		n    int
		want api.Rat
	}{
		{Of(0), 0, Of(1)}, {api.Rat{}, 0, Of(1)}, {rat(true, []uint32{5}, nil), 0, Of(1)}, {rat(true, []uint32{5}, nil), 3, Of(0)},
		{Of(0), 1, Of(0)}, {Of(0), api.MaxPower, Of(0)}, {Of(-1), api.MaxPower, Of(1)}, {Of(-1), api.MaxPower - 1, Of(-1)},
		{Frac(-2, 3), 2, Frac(4, 9)}, {Frac(-2, 3), 3, Frac(-8, 27)}, {Frac(-1, 2), 62, Frac(1, 1<<62)},
		{rat(true, []uint32{6}, []uint32{4}), 3, Frac(-27, 8)}, {rat(true, []uint32{6}, []uint32{4}), 0, Of(1)},
	} {
		if got, e := Pow(x.a, x.n); e != api.OK || !same(got, x.want) {
			t.Error("Pow", x.a, x.n, got, e)
		}
	}
	last, e := Pow(Frac(-7, 10), api.MaxPower)
	exponent := big.NewInt(api.MaxPower)
	want := new(big.Rat).SetFrac(new(big.Int).Exp(big.NewInt(7), exponent, nil), new(big.Int).Exp(big.NewInt(10), exponent, nil))
	if e != api.OK {
		t.Error("the last power", e)
	}
	expect(t, last, want, "Pow")
}

// P3.2
func TestExponentsOutOfRange(t *testing.T) {
	for _, a := range []api.Rat{{}, Of(0), Of(1), Frac(-1, 3), rat(false, []uint32{2}, []uint32{4})} {
		for _, n := range []int{-1, -2, api.MaxPower + 1, math.MinInt, math.MaxInt} {
			if got, e := Pow(a, n); e != api.ErrArg || !isNothing(got) {
				t.Error("Pow", a, n, got, e)
			}
		}
	}
}

// Consequences: the laws of an ordered field.
func TestLaws(t *testing.T) {
	numbers := samples()
	for i, a := range numbers {
		for j := i % 3; j < len(numbers); j += 3 {
			b, c := numbers[j], numbers[(i+7*j)%len(numbers)]
			if !same(Add(a, b), Add(b, a)) || !same(Mul(a, b), Mul(b, a)) {
				t.Error("order", a, b)
			}
			if !same(Add(a, Add(b, c)), Add(Add(a, b), c)) || !same(Mul(a, Mul(b, c)), Mul(Mul(a, b), c)) {
				t.Error("groups", a, b, c)
			}
			if !same(Mul(a, Add(b, c)), Add(Mul(a, b), Mul(a, c))) || !same(Sub(a, b), Add(a, Neg(b))) {
				t.Error("sums in products", a, b, c)
			}
			if Compare(a, b) != Sign(Sub(a, b)) || Compare(a, b) != -Compare(b, a) {
				t.Error("comparison", a, b)
			}
			if q, e := Div(a, b); e == api.OK && !same(Mul(q, b), Trim(a)) {
				t.Error("division", a, b)
			}
		}
	}
}
