package poly

import (
	"math"
	"testing"

	"dspcompiler/api"
	"dspcompiler/rational"
)

// checkRing compares the results for p and q with those of the models.
func checkRing(t *testing.T, p, q api.Poly) {
	t.Helper()
	m, n := modelOf(p), modelOf(q)
	expect(t, Add(p, q), m.plus(n), "Add", p, q)
	expect(t, Sub(p, q), m.minus(n), "Sub", p, q)
	expect(t, Mul(p, q), m.times(n), "Mul", p, q)
}

// P5.3
func TestRing(t *testing.T) {
	for _, p := range samples() {
		for _, q := range samples() {
			checkRing(t, p, q)
		}
	}
	for _, p := range small() {
		for _, q := range small() {
			checkRing(t, p, q)
		}
	}
}

// P5.3
func TestScale(t *testing.T) {
	for _, p := range append(samples(), small()...) {
		for _, c := range numbers() {
			expect(t, Scale(p, c), modelOf(p).scaled(value(c)), "Scale", p, c)
		}
	}
}

// P5.3
func TestRingOfExamples(t *testing.T) {
	for i, x := range []struct{ got, want api.Poly }{
		{Add(of(1, 2, 3), of(1, -2, -3)), of(2)}, {Add(of(1), of(0, 0, 1)), of(1, 0, 1)}, {Add(nil, of(1, 0)), of(1)}, {Add(nil, nil), nil},
		{Sub(of(1), of(0, 0, 1)), of(1, 0, -1)}, {Sub(of(1, 2), of(1, 2, 0)), nil}, {Sub(nil, of(1, 2)), of(-1, -2)},
		{Mul(of(1, 1), of(-1, 1)), of(-1, 0, 1)}, {Mul(of(0, 0), of(1, 2)), nil}, {Mul(of(0, 2, 0), of(3)), of(0, 6)}, {Mul(of(1), nil), nil},
		{Scale(of(1, -2), rational.Of(-3)), of(-3, 6)}, {Scale(of(1, -2), rational.Of(0)), nil}, {Scale(nil, rational.Of(2)), nil},
	} {
		if !same(x.got, x.want) {
			t.Error(i, x.got, x.want)
		}
	}
}

// P5.3
func TestPow(t *testing.T) {
	for _, p := range append(samples(), small()[:40]...) {
		for _, n := range []int{0, 1, 2, 3, 5} {
			got, e := Pow(p, n)
			if e != api.OK {
				t.Error("Pow", p, n, e)
			}
			expect(t, got, modelOf(p).power(n), "Pow", p, n)
		}
	}
	for _, x := range []struct {
		p    api.Poly
		n    int
		want api.Poly
	}{
		{of(1, 1), 4, of(1, 4, 6, 4, 1)}, {nil, 0, of(1)}, {of(0, 0), 0, of(1)}, {nil, 1, nil}, {of(0, 0), api.MaxDegree, nil},
		{of(1), api.MaxDegree, of(1)}, {of(-1), api.MaxDegree - 1, of(-1)}, {of(1, 2, 3), 0, of(1)}, {of(-2, 0), 10, of(1024)},
	} {
		if got, e := Pow(x.p, x.n); e != api.OK || !same(got, x.want) {
			t.Error("Pow", x, got, e)
		}
	}
}

// power returns the n-th power of x, for any n.
func power(n int) api.Poly {
	return append(of(make([]int, n)...), rational.Of(1))
}

// P5.3
func TestPowLimits(t *testing.T) {
	for _, x := range []struct{ degree, n int }{{4, api.MaxDegree}, {192, 1}, {96, 2}, {64, 3}, {1, api.MaxDegree}, {1000, 0}} {
		if got, e := Pow(power(x.degree), x.n); e != api.OK || !same(got, power(x.degree*x.n)) {
			t.Error("Pow", x, e)
		}
	}
	// Zeros at the end do not count for the degree.
	if got, e := Pow(append(power(4), of(0, 0, 0)...), api.MaxDegree); e != api.OK || !same(got, power(192)) {
		t.Error("the greatest power", e)
	}
	for _, x := range []struct{ degree, n int }{{5, api.MaxDegree}, {193, 1}, {97, 2}, {65, 3}, {5, 39}} {
		if got, e := Pow(power(x.degree), x.n); e != api.ErrDegree || got != nil {
			t.Error("Pow", x, got, e)
		}
	}
	for _, p := range []api.Poly{nil, of(0), of(1), of(-3), of(1, 1), power(4), power(200)} {
		for _, n := range []int{-1, -2, api.MaxDegree + 1, math.MinInt, math.MaxInt} {
			if got, e := Pow(p, n); e != api.ErrDegree || got != nil {
				t.Error("Pow", p, n, got, e)
			}
		}
	}
}

// P5.3
func TestCompose(t *testing.T) {
	for i, p := range samples() {
		for _, q := range append(few(i%3, 3), p) {
			m, n := modelOf(p), modelOf(q)
			got, e := Compose(p, q)
			if len(m) > 1 && len(n) > 1 && (len(m)-1)*(len(n)-1) > 4*api.MaxDegree {
				t.Error("the samples have greater degrees than this test is for", p, q)
			}
			if e != api.OK {
				t.Error("Compose", p, q, e)
			}
			expect(t, got, m.of(n), "Compose", p, q)
		}
	}
	for i, p := range small() {
		for j := i % 7; j < len(small()); j += 7 {
			q := small()[j]
			got, e := Compose(p, q)
			if e != api.OK {
				t.Error("Compose", p, q, e)
			}
			expect(t, got, modelOf(p).of(modelOf(q)), "Compose", p, q)
		}
	}
}

// P5.3
func TestComposeLimits(t *testing.T) {
	for _, x := range []struct{ p, q, want api.Poly }{
		{of(1, 0, 1), of(1, 1), of(2, 2, 1)}, {of(5, 1), nil, of(5)}, {of(5, 1), of(0, 0), of(5)}, {nil, of(1, 1), nil}, {nil, nil, nil}, {of(7), of(1, 1), of(7)},
		{of(5, 1), of(3), of(8)}, {of(1, 0, 1), of(1, 1, 0, 0), of(2, 2, 1)},
		{power(14), power(13), power(182)}, {power(192), power(1), power(192)}, {power(1), power(192), power(192)}, {power(16), power(12), power(192)},
		{power(500), of(1), of(1)}, {of(6), power(500), of(6)}, {nil, power(500), nil}, {power(500), nil, nil}, {append(power(16), of(0, 0)...), append(power(12), of(0)...), power(192)},
	} {
		if got, e := Compose(x.p, x.q); e != api.OK || !same(got, x.want) {
			t.Error("Compose", x, got, e)
		}
	}
	for _, x := range []struct{ p, q int }{{14, 14}, {193, 1}, {1, 193}, {97, 2}, {2, 97}, {500, 500}} {
		if got, e := Compose(power(x.p), power(x.q)); e != api.ErrDegree || got != nil {
			t.Error("Compose", x, got, e)
		}
	}
}

// composed returns p of q for degrees that are within the limit.
func composed(p, q api.Poly) api.Poly {
	result, _ := Compose(p, q)
	return result
}

// Consequences: the polynomials are a commutative ring, and Eval is a homomorphism.
func TestLaws(t *testing.T) {
	all := samples()
	for i, p := range all {
		for j := i % 2; j < len(all); j += 2 {
			q, r := all[j], all[(i+7*j)%len(all)]
			if !same(Add(p, q), Add(q, p)) || !same(Mul(p, q), Mul(q, p)) {
				t.Error("order", p, q)
			}
			if !same(Add(p, Add(q, r)), Add(Add(p, q), r)) || !same(Mul(p, Mul(q, r)), Mul(Mul(p, q), r)) {
				t.Error("groups", p, q, r)
			}
			if !same(Mul(p, Add(q, r)), Add(Mul(p, q), Mul(p, r))) || !same(Sub(p, q), Add(p, Scale(q, rational.Of(-1)))) {
				t.Error("sums in products", p, q, r)
			}
			x := numbers()[(i+j)%len(numbers())]
			u, v := Eval(p, x), Eval(q, x)
			if !sameRat(Eval(Add(p, q), x), rational.Add(u, v)) || !sameRat(Eval(Sub(p, q), x), rational.Sub(u, v)) || !sameRat(Eval(Mul(p, q), x), rational.Mul(u, v)) {
				t.Error("values", p, q, x)
			}
			if !sameRat(Eval(composed(p, q), x), Eval(p, v)) {
				t.Error("a value of Compose", p, q, x)
			}
		}
	}
}
