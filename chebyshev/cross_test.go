package chebyshev

import (
	"math/big"
	"math/rand"
	"testing"

	"dspcompiler/api"
	"dspcompiler/poly"
	"dspcompiler/rational"
)

// checkCross compares Cross with its sums and with frequency responses.
func checkCross(t *testing.T, b, c api.Poly) {
	t.Helper()
	m, n := modelOf(b), modelOf(c)
	r, e := Cross(b, c)
	expect(t, r, e, m.crossed(n), "Cross", b, c)
	for _, q := range circle()[:4] {
		if modelOf(r).at(q.re).Cmp(response(m, q).times(response(n, q).conjugate()).re) != 0 {
			t.Error("the responses", b, c, r, q)
		}
	}
}

// checkMagnitude compares Magnitude with Cross and with the frequency response.
func checkMagnitude(t *testing.T, b api.Poly) {
	t.Helper()
	m := modelOf(b)
	r, e := Magnitude(b)
	expect(t, r, e, m.crossed(m), "Magnitude", b)
	for _, q := range circle() {
		size := response(m, q)
		sum := new(big.Rat).Mul(size.re, size.re)
		sum.Add(sum, new(big.Rat).Mul(size.im, size.im))
		if modelOf(r).at(q.re).Cmp(sum) != 0 {
			t.Error("the response", b, r, q)
		}
	}
}

// P8.3
func TestCross(t *testing.T) {
	all := append(samples(), zeros()...)
	for i, b := range all {
		checkMagnitude(t, b)
		for j := i % 3; j < len(all); j += 3 {
			checkCross(t, b, all[j])
			r, _ := Cross(b, all[j])
			if turned, e := Cross(all[j], b); e != api.OK || !same(r, turned) {
				t.Error("Cross, turned", b, all[j], r, turned)
			}
		}
	}
}

// P8.3
func TestRandomCross(t *testing.T) {
	r := rand.New(rand.NewSource(83))
	random := func() api.Poly {
		var p api.Poly
		for range r.Intn(10) {
			p = append(p, rational.Frac(r.Intn(41)-20, r.Intn(7)))
		}
		return p
	}
	for range 150 {
		b := random()
		checkCross(t, b, random())
		checkMagnitude(t, b)
	}
}

// P8.3: the document's examples, and the edge cases.
func TestCrossExamples(t *testing.T) {
	for i, x := range []struct{ b, c, want api.Poly }{
		{of(1), of(0, 1), of(0, 1)}, {of(0, 1), of(1), of(0, 1)}, {of(1, -1), of(1, -1), of(2, -2)}, {of(1, 2, 3), of(1, 2, 3), of(8, 16, 12)}, {of(1, 2), of(0, 1, 3), of(-1, 7, 6)}, {of(0, 1, 3), of(1, 2), of(-1, 7, 6)}, {of(0, 0, 2), of(0, 0, 5), of(10)}, {of(0, 0, 0, 1), of(1), of(0, -3, 0, 4)}, {of(1), of(0, 0, 0, 1), of(0, -3, 0, 4)}, {of(0, 0, 0, 2), of(0, 3), of(-6, 0, 12)},
		{of(2), of(3, 0), of(6)}, {of(1, 1), of(1, -1), nil}, {nil, of(1, 2), nil}, {of(1, 2), of(0, 0), nil}, {of(1), long(api.MaxDegree)[:1], of(3)}, {nil, long(api.MaxDegree), nil}, {long(api.MaxDegree), looseZeros(), nil}, {over(2, 1, 1), over(3, 0, 1), over(6, 1, 1)},
	} {
		if r, e := Cross(x.b, x.c); e != api.OK || !same(r, x.want) {
			t.Error("Cross", i, r, e)
		}
	}
	for i, x := range []struct{ b, want api.Poly }{
		{of(1, -1), of(2, -2)}, {of(1, 1), of(2, 2)}, {of(1, 2, 3), of(8, 16, 12)}, {of(1, -2), of(5, -4)}, {of(-3), of(9)}, {of(0, 0, 3), of(9)}, {over(2, 1), over(4, 1)}, {of(1, 0, 1), of(0, 0, 4)}, {nil, nil}, {of(0), nil}, {looseZeros(), nil},
	} {
		if r, e := Magnitude(x.b); e != api.OK || !same(r, x.want) {
			t.Error("Magnitude", i, r, e)
		}
	}
}

// P8.3: a degree counts, and not the number of elements.
func TestCrossDegrees(t *testing.T) {
	greatest, tooGreat := dense(api.MaxDegree), dense(api.MaxDegree+1)
	for _, c := range []api.Poly{of(1), of(0, 1), long(api.MaxDegree), greatest, loose(greatest), poly.Trim(loose(tooGreat)[1:])} {
		checkCross(t, greatest, c)
		checkCross(t, loose(greatest), c)
		checkCross(t, c, greatest)
		checkMagnitude(t, c)
	}
	// The power of the greatest degree has the magnitude 1.
	power := make(api.Poly, api.MaxDegree+1)
	power[api.MaxDegree] = rational.Of(1)
	if r, e := Magnitude(power); e != api.OK || !same(r, of(1)) {
		t.Error("Magnitude of a power", r, e)
	}
	last, _ := T(api.MaxDegree)
	if r, e := Cross(power, of(1)); e != api.OK || !same(r, last) {
		t.Error("Cross of a power", r, e)
	}
	for _, b := range []api.Poly{tooGreat, loose(tooGreat), long(api.MaxDegree + 1), long(500)} {
		r, e := Magnitude(b)
		expectError(t, r, e, api.ErrDegree, "Magnitude", len(b))
		for _, c := range []api.Poly{nil, of(0), of(1), greatest, b} {
			r, e := Cross(b, c)
			expectError(t, r, e, api.ErrDegree, "Cross", len(b), len(c))
			r, e = Cross(c, b)
			expectError(t, r, e, api.ErrDegree, "Cross", len(c), len(b))
		}
	}
}

// Consequences: Magnitude of a product is the product of the Magnitudes, it is not negative on [-1, 1], and that of a symmetric sequence is the square of its amplitude.
func TestMagnitudes(t *testing.T) {
	all := samples()
	for i, b := range all {
		m, _ := Magnitude(b)
		for k := int64(-8); k <= 8; k++ {
			if modelOf(m).at(big.NewRat(k, 8)).Sign() < 0 {
				t.Error("Magnitude is negative", b, m, k)
			}
		}
		c := all[(5*i+2)%len(all)]
		n, _ := Magnitude(c)
		product, e := Magnitude(poly.Mul(b, c))
		expect(t, product, e, modelOf(m).times(modelOf(n)), "Magnitude of a product", b, c)
		h := mirrored(b)
		a, _ := Amplitude(h)
		square, e := Magnitude(h)
		expect(t, square, e, modelOf(a).times(modelOf(a)), "Magnitude of a symmetric sequence", h)
	}
}
