package chebyshev

import (
	"math"
	"math/big"
	"math/rand"
	"testing"

	"dspcompiler/api"
	"dspcompiler/poly"
	"dspcompiler/rational"
)

// P8.1
func TestT(t *testing.T) {
	list := chebyshevs(api.MaxDegree)
	for n := range api.MaxDegree + 1 {
		p, e := T(n)
		expect(t, p, e, list[n], "T", n)
	}
	for n, want := range []api.Poly{of(1), of(0, 1), of(-1, 0, 2), of(0, -3, 0, 4), of(1, 0, -8, 0, 8), of(0, 5, 0, -20, 0, 16), of(-1, 0, 18, 0, -48, 0, 32)} {
		if p, e := T(n); e != api.OK || !same(p, want) {
			t.Error("T", n, p, e)
		}
	}
	for _, n := range []int{-1, -2, api.MaxDegree + 1, 4 * api.MaxDegree, math.MinInt, math.MaxInt} {
		p, e := T(n)
		expectError(t, p, e, api.ErrDegree, "T", n)
	}
}

// Definitions: T_n(cos w) is cos(n w).
func TestCosines(t *testing.T) {
	for n := range api.MaxDegree + 1 {
		p, _ := T(n)
		for _, q := range circle() {
			if modelOf(p).at(q.re).Cmp(q.power(n).re) != 0 {
				t.Error("T", n, q.re)
			}
		}
	}
}

// Consequences: T_m of T_n is T_(mn).
func TestComposition(t *testing.T) {
	for m := range 13 {
		for n := range api.MaxDegree/max(m, 1) + 1 {
			p, _ := T(m)
			q, _ := T(n)
			r, e := T(m * n)
			expect(t, r, e, modelOf(p).of(modelOf(q)), "T", m, n)
		}
	}
}

// checkToBasis compares ToBasis with the definition: the sum is p, and there is one coefficient for each power.
func checkToBasis(t *testing.T, p api.Poly) {
	t.Helper()
	c := ToBasis(p)
	m := modelOf(p)
	if len(c) != len(m) || !canonical(c) || !sumOf(valuesOf(c)).equals(m) {
		t.Error("ToBasis", p, c)
	}
	back, e := FromBasis(c)
	if len(m) > api.MaxDegree+1 {
		expectError(t, back, e, api.ErrDegree, "FromBasis", c)
		return
	}
	expect(t, back, e, m, "FromBasis", c)
}

// checkFromBasis compares FromBasis with the definition.
func checkFromBasis(t *testing.T, c []api.Rat) {
	t.Helper()
	p, e := FromBasis(c)
	expect(t, p, e, sumOf(valuesOf(c)), "FromBasis", c)
	if !same(ToBasis(p), poly.Trim(c)) {
		t.Error("ToBasis of FromBasis", c, p)
	}
}

// P8.1
func TestBasis(t *testing.T) {
	for _, p := range append(samples(), zeros()...) {
		checkToBasis(t, p)
		checkFromBasis(t, p)
	}
	for n := range 12 {
		checkToBasis(t, long(n))
		checkToBasis(t, dense(n))
		checkFromBasis(t, long(n))
		checkFromBasis(t, dense(n))
	}
}

// P8.1
func TestRandomBasis(t *testing.T) {
	r := rand.New(rand.NewSource(8))
	for range 200 {
		var p api.Poly
		for range r.Intn(14) {
			p = append(p, rational.Frac(r.Intn(41)-20, r.Intn(12)))
		}
		checkToBasis(t, p)
		checkFromBasis(t, p)
	}
}

// P8.1: the edge cases.
func TestBasisExamples(t *testing.T) {
	for i, x := range []struct{ p, c api.Poly }{
		{of(0, 0, 0, 4), of(0, 3, 0, 1)}, {of(1, 2, 2), of(2, 2, 1)}, {of(1, 2, 2, 0), of(2, 2, 1)}, {of(7), of(7)}, {of(0, 5), of(0, 5)}, {of(0, 0, 1), over(2, 1, 0, 1)}, {over(3, 0, 0, 0, 1), over(12, 0, 3, 0, 1)}, {of(0, 0, 0, 0, 8), of(3, 0, 4, 0, 1)},
	} {
		if c := ToBasis(x.p); !same(c, x.c) {
			t.Error("ToBasis", i, c)
		}
		if p, e := FromBasis(x.c); e != api.OK || !same(p, poly.Trim(x.p)) {
			t.Error("FromBasis", i, p, e)
		}
	}
	for n := range api.MaxDegree + 1 {
		p, _ := T(n)
		c := ToBasis(p)
		unit := make([]api.Rat, n+1)
		unit[n] = rational.Of(1)
		if !modelOf(c).equals(modelOf(unit)) || len(c) != n+1 {
			t.Error("ToBasis of T", n, c)
		}
		q, e := FromBasis(unit)
		expect(t, q, e, modelOf(p), "FromBasis", unit)
	}
	for _, p := range zeros() {
		if c := ToBasis(p); len(c) != 0 {
			t.Error("ToBasis of 0", p, c)
		}
		if q, e := FromBasis(p); len(q) != 0 || e != api.OK {
			t.Error("FromBasis of 0", p, q, e)
		}
	}
	// Zeros at the end do not count for the degree of the sum.
	if p, e := FromBasis(append(of(0, 3), looseZeros()...)); e != api.OK || !same(p, of(0, 3)) {
		t.Error("FromBasis", p, e)
	}
}

// P8.1: ToBasis has no limit of the degree, and FromBasis one of the number of elements.
func TestBasisLimits(t *testing.T) {
	for _, n := range []int{api.MaxDegree - 1, api.MaxDegree, api.MaxDegree + 1, api.MaxDegree + 2, 2 * api.MaxDegree, 100} {
		checkToBasis(t, long(n))
		checkToBasis(t, dense(n))
	}
	// The last coefficient is that of the power divided by 2^(n - 1), beyond the greatest exponent of package rational.
	n := 4*api.MaxDegree + 9
	c := ToBasis(long(n))
	want := new(big.Rat).SetFrac(big.NewInt(1), new(big.Int).Lsh(big.NewInt(1), uint(n-1)))
	if len(c) != n+1 || value(c[n]).Cmp(want) != 0 || value(c[n-2]).Cmp(new(big.Rat).Mul(want, big.NewRat(int64(n), 1))) != 0 {
		t.Error("ToBasis of a long polynomial", len(c))
	}
	checkFromBasis(t, dense(api.MaxDegree))
	checkFromBasis(t, long(api.MaxDegree))
	checkFromBasis(t, make([]api.Rat, api.MaxDegree+1))
	for _, c := range [][]api.Rat{dense(api.MaxDegree + 1), long(api.MaxDegree + 1), make([]api.Rat, api.MaxDegree+2), loose(dense(api.MaxDegree)), append(of(1), make([]api.Rat, api.MaxDegree+1)...), make([]api.Rat, 1000)} {
		p, e := FromBasis(c)
		expectError(t, p, e, api.ErrDegree, "FromBasis", c)
	}
}

// P8.1: the numbers with which the package computes.
func TestWhole(t *testing.T) {
	for _, p := range append(samples(), zeros()...) {
		integers, unit := whole(p)
		if rational.Sign(unit) <= 0 || len(integers) != len(p) {
			t.Error("whole", p, integers, unit)
		}
		for i, c := range integers {
			if !value(c).IsInt() || new(big.Rat).Mul(value(c), value(unit)).Cmp(value(p[i])) != 0 {
				t.Error("whole", p, i, c, unit)
			}
		}
	}
}
