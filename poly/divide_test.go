package poly

import (
	"math/rand"
	"testing"

	"dspcompiler/api"
	"dspcompiler/rational"
)

// checkDivision compares the results for p and q with those of the models.
func checkDivision(t *testing.T, p, q api.Poly) {
	t.Helper()
	m, n := modelOf(p), modelOf(q)
	expect(t, Gcd(p, q), m.gcd(n), "Gcd", p, q)
	quotient, rest, e := DivMod(p, q)
	if len(n) == 0 {
		if quotient != nil || rest != nil || e != api.ErrZero {
			t.Error("DivMod by zero", p, q, quotient, rest, e)
		}
		return
	}
	if e != api.OK {
		t.Error("DivMod", p, q, e)
	}
	wantQuotient, wantRest := m.divMod(n)
	expect(t, quotient, wantQuotient, "the quotient of DivMod", p, q)
	expect(t, rest, wantRest, "the remainder of DivMod", p, q)
	if Degree(rest) >= Degree(q) || !same(Add(Mul(quotient, q), rest), Trim(p)) {
		t.Error("DivMod", p, q, quotient, rest)
	}
}

// P5.4
func TestDivision(t *testing.T) {
	all := samples()
	for i, p := range all {
		for j, q := range all {
			checkDivision(t, p, q)
			if (i+j)%4 == 0 {
				common := all[(5*j+3)%len(all)]
				checkDivision(t, Mul(p, common), Mul(q, common))
			}
		}
	}
	for _, p := range small() {
		for _, q := range small() {
			checkDivision(t, p, q)
		}
	}
}

// P5.4: the document's examples, and the edge cases.
func TestDivMod(t *testing.T) {
	half, third := rational.Frac(1, 2), rational.Frac(1, 3)
	for _, x := range []struct{ p, q, quotient, rest api.Poly }{
		{of(0, 0, 1), of(-1, 1), of(1, 1), of(1)},
		{of(1, 2), of(0, 0, 4, 0), nil, of(1, 2)},
		{of(1, 2, 0), of(1, 2), of(1), nil},
		{of(1, 0, 3), of(2), api.Poly{half, rational.Of(0), rational.Frac(3, 2)}, nil},
		{nil, of(3), nil, nil},
		{of(0, 0), of(3, 1), nil, nil},
		{of(5), of(3), api.Poly{rational.Frac(5, 3)}, nil},
		{of(-1, 0, 0, 0, 1), of(1, 0, 1), of(-1, 0, 1), nil},
		{of(0, 0, 0, 1), of(-1, 2), api.Poly{rational.Frac(1, 8), rational.Frac(1, 4), half}, api.Poly{rational.Frac(1, 8)}},
		{api.Poly{half, third}, api.Poly{third, half}, api.Poly{rational.Frac(2, 3)}, api.Poly{rational.Frac(5, 18)}},
	} {
		if quotient, rest, e := DivMod(x.p, x.q); e != api.OK || !same(quotient, x.quotient) || !same(rest, x.rest) {
			t.Error("DivMod", x, quotient, rest, e)
		}
	}
	for _, zero := range []api.Poly{nil, {}, of(0), of(0, 0), {{}}, {rat(true, []uint32{3}, nil), rat(false, []uint32{0}, []uint32{3})}} {
		for _, p := range []api.Poly{nil, of(0), of(1), of(1, 2, 3)} {
			if quotient, rest, e := DivMod(p, zero); e != api.ErrZero || quotient != nil || rest != nil {
				t.Error("DivMod by zero", p, zero, quotient, rest, e)
			}
		}
	}
}

// P5.4
func TestMonicAndDerivative(t *testing.T) {
	for _, p := range append(samples(), small()...) {
		m := modelOf(p)
		expect(t, Derivative(p), m.derivative(), "Derivative", p)
		if len(m) > 0 {
			m = m.monic()
		}
		expect(t, Monic(p), m, "Monic", p)
	}
	for i, x := range []struct{ got, want api.Poly }{
		{Monic(of(2, 4)), api.Poly{rational.Frac(1, 2), rational.Of(1)}}, {Monic(of(-5)), of(1)}, {Monic(of(3, -1, 0)), of(-3, 1)}, {Monic(of(0)), nil}, {Monic(nil), nil},
		{Derivative(of(5, 4, 3, 2)), of(4, 6, 6)}, {Derivative(of(5)), nil}, {Derivative(of(5, 0)), nil}, {Derivative(nil), nil}, {Derivative(of(0, 0, 0, 1)), of(0, 0, 3)},
	} {
		if !same(x.got, x.want) {
			t.Error(i, x.got, x.want)
		}
	}
}

// P5.4
func TestGcd(t *testing.T) {
	a, b, g := of(1, 3, 0, 2), of(7, -1, 5), of(2, 0, -3, 1)
	for i, x := range []struct{ got, want api.Poly }{
		{Gcd(of(-1, 0, 1), of(-2, 2)), of(-1, 1)}, {Gcd(nil, of(2, 4)), api.Poly{rational.Frac(1, 2), rational.Of(1)}}, {Gcd(of(2, -1, 0), of(0)), of(-2, 1)},
		{Gcd(of(0), nil), nil}, {Gcd(of(3), of(5, 1)), of(1)}, {Gcd(of(-3), of(0)), of(1)}, {Gcd(of(5, 1), of(-5, -1)), of(5, 1)},
		{Gcd(Mul(a, g), Mul(b, g)), g}, {Gcd(Mul(a, a), Mul(a, g)), Monic(a)}, {Gcd(of(0, 0, 1), of(0, 0, 0, 0, -7)), of(0, 0, 1)},
		{Gcd(of(0, 1), of(prime, 1)), of(1)}, {Gcd(of(1, prime), Mul(of(1, prime), of(2, 1))), Monic(of(1, prime))},
		{Gcd(Mul(of(1, prime), of(2, 1)), Mul(of(1, prime), of(3, 1))), Monic(of(1, prime))}, {Gcd(of(1, 0, prime), of(1, 1, prime)), of(1)},
		{Gcd(of(prime, prime), of(1, 1)), of(1, 1)}, {Gcd(of(-1-prime, 1), of(1, -1)), of(1)},
	} {
		if !same(x.got, x.want) {
			t.Error(i, x.got, x.want)
		}
	}
}

// P5.4
func TestSquarefree(t *testing.T) {
	for _, p := range append(samples(), small()...) {
		m := modelOf(p)
		if len(m) == 0 {
			expect(t, Squarefree(p), nil, "Squarefree", p)
			continue
		}
		for _, q := range []api.Poly{p, Mul(p, p), Mul(p, of(-1, 1)), Mul(p, of(0, 0, 4, 0, 1))} {
			n := modelOf(q)
			quotient, _ := n.divMod(n.gcd(n.derivative()))
			expect(t, Squarefree(q), quotient.monic(), "Squarefree", q)
		}
	}
	cube, _ := Pow(of(1, 0, 1), 3)
	tenth, _ := Pow(api.Poly{rational.Frac(1, 2), rational.Frac(-3, 1)}, 10)
	for i, x := range []struct{ got, want api.Poly }{
		{Squarefree(of(0, 0, -1, 1)), of(0, -1, 1)}, {Squarefree(of(-5)), of(1)}, {Squarefree(nil), nil}, {Squarefree(of(0, 0)), nil},
		{Squarefree(Scale(cube, rational.Of(7))), of(1, 0, 1)}, {Squarefree(tenth), api.Poly{rational.Frac(-1, 6), rational.Of(1)}}, {Squarefree(of(6, 2, 0)), of(3, 1)},
	} {
		if !same(x.got, x.want) {
			t.Error(i, x.got, x.want)
		}
	}
}

// Consequences: the derivative obeys the product rule.
func TestProductRule(t *testing.T) {
	for _, p := range samples() {
		for _, q := range samples() {
			if !same(Derivative(Mul(p, q)), Add(Mul(Derivative(p), q), Mul(p, Derivative(q)))) {
				t.Error("the product rule", p, q)
			}
		}
	}
}

// randomPoly returns a polynomial of a degree that is not greater than n, with small fractions or with long ones.
func randomPoly(r *rand.Rand, n int) api.Poly {
	p := make(api.Poly, r.Intn(n+1)+1)
	isLong := r.Intn(2) == 0
	for i := range p {
		num, den := []uint32{uint32(r.Intn(9))}, []uint32{uint32(r.Intn(5))}
		if isLong {
			num, den = []uint32{r.Uint32(), r.Uint32()}, []uint32{1 + uint32(r.Intn(9)), uint32(r.Intn(2))}
		}
		p[i] = rat(r.Intn(2) == 0, num, den)
	}
	return p
}

// P5.4: greater degrees and long coefficients.
func TestRandomDivision(t *testing.T) {
	r := rand.New(rand.NewSource(5))
	for range 300 {
		p, q, common := randomPoly(r, 7), randomPoly(r, 5), randomPoly(r, 4)
		checkRing(t, p, q)
		checkDivision(t, p, q)
		checkDivision(t, Mul(p, common), Mul(common, q))
		square := Mul(p, Mul(common, common))
		if s := Squarefree(square); len(s) > 0 && (Degree(Gcd(s, Derivative(s))) > 0 || !same(Gcd(s, square), s) || !same(Squarefree(Mul(p, common)), s)) {
			t.Error("Squarefree", square, s)
		}
	}
}
