package sturm

import (
	"math/big"
	"math/rand"
	"testing"

	"dspcompiler/api"
	"dspcompiler/poly"
	"dspcompiler/rational"
)

// checkCount compares Count with what is wanted.
func checkCount(t *testing.T, p api.Poly, x api.Interval, want int) {
	t.Helper()
	if n, e := Count(p, x); n != want || e != api.OK {
		t.Errorf("Count(%v, %v) is %d, %d, not %d", p, x, n, e, want)
	}
}

// checkSigns compares Nonnegative and Positive with what is wanted.
func checkSigns(t *testing.T, p api.Poly, x api.Interval, nonnegative, positive bool) {
	t.Helper()
	a, e := Nonnegative(p, x)
	b, f := Positive(p, x)
	if a != nonnegative || b != positive || e != api.OK || f != api.OK {
		t.Errorf("signs of %v on %v are %t, %d and %t, %d, not %t and %t", p, x, a, e, b, f, nonnegative, positive)
	}
}

// P6.1
func TestCount(t *testing.T) {
	for _, p := range samples() {
		m := modelOf(p)
		for _, x := range intervals() {
			lo, hi := values(x)
			checkCount(t, p, x, m.count(lo, hi))
		}
	}
}

// P6.1: the number of the document, and multiple roots, which count once, at ends, in the middle and elsewhere.
func TestCountOfExamples(t *testing.T) {
	for _, x := range []struct {
		p    api.Poly
		on   api.Interval
		want int
	}{
		{of(0, -1, 0, 1), on(-4, 4), 3}, {of(0, -1, 0, 1), on(4, -4), 3}, {of(0, -1, 0, 1), on(-3, 3), 1}, {of(0, -1, 0, 1), on(0, 4), 2}, {of(0, -1, 0, 1), on(1, 4), 1}, {of(0, -1, 0, 1), on(1, 3), 0},
		{of(0, -1, 0, 1), on(4, 4), 1}, {of(0, -1, 0, 1), on(2, 2), 0}, {of(0, -1, 0, 1), api.Interval{}, 1}, {of(7), api.Interval{}, 0}, {of(0, 0, 3), on(-4, 4), 1},
		{repeated(of(0, -1, 0, 1), 5), on(-4, 4), 3}, {repeated(of(0, -1, 0, 1), 5), on(-8, 4), 3}, {repeated(of(-1, 3), 9), on(-4, 4), 1}, {repeated(of(-2, 0, 1), 8), on(-40, 40), 2}, {repeated(of(-2, 0, 1), 8), on(0, 40), 1},
		{chebyshev(20), on(-4, 4), 20}, {chebyshev(20), on(0, 4), 10}, {chebyshev(21), on(0, 4), 11}, {poly.Sub(of(1), repeated(chebyshev(12), 2)), on(-4, 4), 13}, {poly.Sub(of(1), repeated(chebyshev(12), 2)), on(-3, 3), 7},
	} {
		checkCount(t, x.p, x.on, x.want)
	}
}

// P6.1: the greatest degree, with simple and with multiple roots.
func TestCountOfGreatDegree(t *testing.T) {
	checkCount(t, chebyshev(api.MaxDegree), on(-4, 4), api.MaxDegree)
	checkCount(t, repeated(of(-1, 3), api.MaxDegree), on(-4, 4), 1)
	checkCount(t, repeated(chebyshev(12), 4), on(-4, 4), 12)
	checkCount(t, long(api.MaxDegree), on(-4, 4), 2)
	roots := of(1)
	for i := range 20 {
		roots = product(roots, of(-i, 1))
	}
	checkCount(t, roots, on(0, 80), 20)
	checkCount(t, roots, on(1, 75), 18)
	checkCount(t, roots, api.Interval{Lo: rat(true, []uint32{0, 0, 0, 1}, []uint32{1}), Hi: rat(false, []uint32{0, 0, 0, 1}, []uint32{1})}, 20)
}

// Consequences: the Count of an interval is that of its halves, less 1 if the middle is a root, and at most the degree.
func TestHalves(t *testing.T) {
	for i, p := range samples() {
		for j, x := range intervals() {
			if (i+j)%3 > 0 {
				continue
			}
			lo, hi := x.Lo, x.Hi
			mid := rational.Mul(rational.Add(lo, hi), rational.Frac(1, 2))
			whole, _ := Count(p, x)
			left, _ := Count(p, api.Interval{Lo: lo, Hi: mid})
			right, _ := Count(p, api.Interval{Lo: mid, Hi: hi})
			if modelOf(p).signAt(value(mid)) == 0 {
				right--
			}
			if whole != left+right || whole > poly.Degree(p) {
				t.Error("Count", p, x, whole, left, right)
			}
		}
	}
}

// P6.1 to P6.4: products of given linear factors, whose signs and roots are known, times factors without real roots.
func TestKnownRoots(t *testing.T) {
	numbers := []api.Rat{rational.Of(-1), rational.Frac(-1, 3), rational.Of(0), rational.Frac(1, 2), rational.Of(1), rational.Frac(5, 7)}
	r := rand.New(rand.NewSource(6))
	for range 120 {
		p := api.Poly{rational.Frac(r.Intn(9)+1, r.Intn(9)+1)}
		powers := make([]int, len(numbers))
		for i, x := range numbers {
			powers[i] = max(0, r.Intn(6)-2)
			p = product(p, repeated(api.Poly{rational.Neg(x), rational.Of(1)}, powers[i]))
		}
		if r.Intn(2) == 0 {
			p = product(p, repeated(of(1+r.Intn(3), 1, 1), 1+r.Intn(2)))
		}
		if r.Intn(2) == 0 {
			p = poly.Scale(p, rational.Of(-1))
		}
		for range 4 {
			x := api.Interval{Lo: numbers[r.Intn(len(numbers))], Hi: numbers[r.Intn(len(numbers))]}
			if r.Intn(3) == 0 {
				x.Lo = rational.Frac(r.Intn(41)-20, 10)
			}
			checkKnown(t, p, x, numbers, powers)
		}
	}
}

// checkKnown checks all functions for a polynomial whose real roots are among the numbers.
func checkKnown(t *testing.T, p api.Poly, x api.Interval, numbers []api.Rat, powers []int) {
	t.Helper()
	m := modelOf(p)
	lo, hi := values(x)
	count, nonnegative := 0, m.signAt(lo) >= 0 && m.signAt(hi) >= 0
	for i, root := range numbers {
		r := value(root)
		if powers[i] > 0 && r.Cmp(lo) >= 0 && r.Cmp(hi) <= 0 {
			count++
		}
		// The numbers are far enough from one another and from the ends, so that the sign stays the same for the step.
		for _, step := range []*big.Rat{big.NewRat(1, 1000), big.NewRat(-1, 1000)} {
			near := new(big.Rat).Add(r, step)
			if near.Cmp(lo) > 0 && near.Cmp(hi) < 0 && m.signAt(near) < 0 {
				nonnegative = false
			}
		}
		if s, e := SignAfter(p, root); s != m.signAt(new(big.Rat).Add(r, big.NewRat(1, 1000))) || e != api.OK {
			t.Error("SignAfter", p, root, s, e)
		}
	}
	checkCount(t, p, x, count)
	checkSigns(t, p, x, nonnegative, nonnegative && count == 0)
	checkIsolation(t, p, x, 6)
}

// P6.2
func TestSignAfter(t *testing.T) {
	for _, p := range samples() {
		for _, y := range intervals() {
			m, s := modelOf(p), 0
			for ; s == 0; m = m.derivative() {
				s = m.signAt(value(y.Lo))
			}
			if got, e := SignAfter(p, y.Lo); got != s || e != api.OK {
				t.Error("SignAfter", p, y.Lo, got, e, s)
			}
		}
	}
	for i, x := range []struct {
		p    api.Poly
		x    api.Rat
		want int
	}{
		{of(0, -1, 1), rational.Of(0), -1}, {of(0, -1, 1), rational.Of(1), 1}, {of(0, -1, 1), rational.Frac(-1, 5), 1}, {of(0, -1, 1), api.Rat{}, -1}, {of(0, -1, 1), rat(false, []uint32{3, 0}, []uint32{3}), 1},
		{of(1, -2, 1), rational.Of(1), 1}, {of(-1, 2, -1), rational.Of(1), -1}, {of(1, -3, 3, -1), rational.Of(1), -1}, {long(api.MaxDegree), rational.Of(-1), -1},
		{repeated(of(2, -1), api.MaxDegree), rational.Of(2), 1}, {repeated(of(2, -1), api.MaxDegree-1), rational.Of(2), -1}, {of(4), rational.Of(2), 1}, {of(-4, 0), rational.Of(2), -1},
		{nil, rational.Of(2), 0}, {api.Poly{{}, rat(true, []uint32{1}, []uint32{0})}, rational.Of(2), 0}, {of(0, 0, 0), api.Rat{}, 0},
	} {
		if s, e := SignAfter(x.p, x.x); s != x.want || e != api.OK {
			t.Error("SignAfter", i, s, e)
		}
	}
}

// P6.4: what the model says of the signs in the middle between the roots, which are found by halving.
func TestSigns(t *testing.T) {
	for _, p := range samples() {
		m := modelOf(p)
		for _, x := range intervals() {
			lo, hi := values(x)
			nonnegative := m.isNonnegative(lo, hi)
			checkSigns(t, p, x, nonnegative, nonnegative && m.count(lo, hi) == 0)
		}
	}
}

// isNonnegative looks for a negative value at the ends and between the roots.
func (m model) isNonnegative(lo, hi *big.Rat) bool {
	return m.isNonnegativeBetween(lo, hi, m.counter())
}

func (m model) isNonnegativeBetween(lo, hi *big.Rat, count func(lo, hi *big.Rat) int) bool {
	first, last, inside := m.signAt(lo), m.signAt(hi), count(lo, hi)
	if first < 0 || last < 0 {
		return false
	}
	if lo.Cmp(hi) == 0 {
		return true
	}
	mid := between(lo, hi)
	middle := m.signAt(mid)
	for _, s := range []int{first, last} {
		if s == 0 {
			inside--
		}
	}
	// Without a root inside the sign stays that in the middle; with one root that is not at an end, it is that at the ends, on both of its sides.
	if inside == 0 || inside == 1 && first != 0 && last != 0 {
		return middle >= 0
	}
	return middle >= 0 && m.isNonnegativeBetween(lo, mid, count) && m.isNonnegativeBetween(mid, hi, count)
}

// P6.4: multiple roots of both kinds at ends, in the middle and elsewhere, and the zero polynomial.
func TestSignsOfExamples(t *testing.T) {
	square, cube := of(1, -2, 1), of(-1, 3, -3, 1)
	irrational := repeated(of(-2, 0, 1), 2)
	for _, x := range []struct {
		p                     api.Poly
		on                    api.Interval
		nonnegative, positive bool
	}{
		{square, on(0, 8), true, false}, {square, on(8, 0), true, false}, {square, on(1, 9), true, false}, {square, on(0, 4), true, false}, {square, on(4, 4), true, false}, {square, on(5, 8), true, true}, {square, on(3, 3), true, true},
		{cube, on(0, 8), false, false}, {cube, on(4, 8), true, false}, {cube, on(0, 4), false, false}, {cube, on(5, 8), true, true}, {cube, on(1, 3), false, false}, {cube, on(4, 4), true, false}, {cube, on(3, 3), false, false},
		{irrational, on(-8, 8), true, false}, {irrational, on(0, 8), true, false}, {irrational, on(0, 5), true, true}, {poly.Scale(irrational, rational.Of(-1)), on(0, 8), false, false}, {poly.Scale(irrational, rational.Of(-1)), on(6, 6), false, false},
		{product(irrational, of(-2, 0, 1)), on(0, 8), false, false}, {product(irrational, of(3, 0, -1)), on(0, 6), true, false}, {product(irrational, of(3, 0, -1)), on(0, 7), false, false}, {product(irrational, of(0, 1)), on(0, 8), true, false},
		{of(-1, 0, 1), on(-4, 4), false, false}, {of(1, 0, -1), on(-4, 4), true, false}, {of(1, 0, -1), on(-4, 5), false, false}, {of(1, 0, -1), on(-3, 3), true, true}, {of(0, 1), on(0, 4), true, false}, {of(0, -1), on(-4, 0), true, false},
		{of(3), on(-4, 4), true, true}, {of(-3), on(-4, 4), false, false}, {of(-3), on(1, 1), false, false}, {of(3), api.Interval{}, true, true},
		{nil, on(-4, 4), true, false}, {nil, on(4, 4), true, false}, {api.Poly{{}, rat(true, []uint32{0}, nil)}, on(-4, 4), true, false}, {of(0), api.Interval{}, true, false},
		{poly.Sub(of(1), repeated(chebyshev(12), 2)), on(-4, 4), true, false}, {poly.Sub(api.Poly{rational.Frac(999, 1000)}, repeated(chebyshev(12), 2)), on(-4, 4), false, false}, {poly.Sub(api.Poly{rational.Frac(1001, 1000)}, repeated(chebyshev(24), 2)), on(-4, 4), true, true},
	} {
		checkSigns(t, x.p, x.on, x.nonnegative, x.positive)
	}
}

// Consequences: a positive polynomial is nonnegative and has no root; one that is nonnegative changes its sign at none of its roots.
func TestConsequences(t *testing.T) {
	for i, p := range samples() {
		for j, x := range intervals() {
			count, _ := Count(p, x)
			nonnegative, _ := Nonnegative(p, x)
			positive, _ := Positive(p, x)
			if positive && (!nonnegative || count > 0) || nonnegative && !positive && count == 0 {
				t.Error("signs", p, x, count, nonnegative, positive)
			}
			if s, _ := SignAfter(p, x.Lo); nonnegative && s < 0 && rational.Compare(x.Lo, x.Hi) < 0 {
				t.Error("SignAfter", p, x, s)
			}
			if (i+j)%8 > 0 {
				continue
			}
			squared, _ := Nonnegative(poly.Mul(p, p), x)
			sum, _ := Positive(poly.Add(poly.Mul(p, p), api.Poly{tiny(90)}), x)
			if !squared || !sum {
				t.Error("squares", p, x, squared, sum)
			}
		}
	}
}

// P6.1 to P6.4: degrees that are too great, zero polynomials, and zeros at the end, which do not count for the degree.
func TestErrors(t *testing.T) {
	for _, p := range []api.Poly{long(api.MaxDegree + 1), long(api.MaxDegree + 2), long(300), loose(long(api.MaxDegree + 1))} {
		for _, x := range []api.Interval{on(-4, 4), on(4, -4), {}} {
			n, e := Count(p, x)
			s, f := SignAfter(p, x.Lo)
			l, g := Isolate(p, x, 4)
			a, h := Nonnegative(p, x)
			b, i := Positive(p, x)
			if n != 0 || s != 0 || l != nil || a || b || e != api.ErrDegree || f != api.ErrDegree || g != api.ErrDegree || h != api.ErrDegree || i != api.ErrDegree {
				t.Error("a great degree", len(p), n, e, s, f, l, g, a, h, b, i)
			}
		}
	}
	for _, p := range []api.Poly{nil, {}, {{}}, of(0, 0), make(api.Poly, 200), {rat(true, []uint32{5}, nil), rat(true, []uint32{0}, []uint32{3})}} {
		n, e := Count(p, on(0, 4))
		l, f := Isolate(p, on(0, 4), 4)
		if n != 0 || l != nil || e != api.ErrZero || f != api.ErrZero {
			t.Error("zero", p, n, e, l, f)
		}
	}
	p := append(long(api.MaxDegree), make(api.Poly, 100)...)
	checkCount(t, p, on(-4, 4), 2)
	checkSigns(t, p, on(4, 8), true, false)
	checkIsolation(t, p, on(-8, 8), 3)
	if s, e := SignAfter(p, rational.Of(1)); s != 1 || e != api.OK {
		t.Error("SignAfter", s, e)
	}
}

// P6.1 to P6.4: long coefficients, and ends of intervals that are no binary fractions.
func TestRandom(t *testing.T) {
	r := rand.New(rand.NewSource(7))
	for range 15 {
		p := make(api.Poly, 1+r.Intn(8))
		for i := range p {
			p[i] = rat(r.Intn(2) == 0, []uint32{r.Uint32(), r.Uint32() >> r.Intn(32)}, []uint32{uint32(r.Intn(100)), uint32(r.Intn(2))})
		}
		if r.Intn(3) == 0 {
			p = poly.Mul(p, p)
		}
		x := api.Interval{Lo: rational.Frac(r.Intn(200)-150, 1+r.Intn(90)), Hi: rational.Frac(r.Intn(200)-50, 1+r.Intn(90))}
		m := modelOf(p)
		lo, hi := values(x)
		checkCount(t, p, x, m.count(lo, hi))
		checkIsolation(t, p, x, r.Intn(12))
		nonnegative := m.isNonnegative(lo, hi)
		checkSigns(t, p, x, nonnegative, nonnegative && m.count(lo, hi) == 0)
	}
}
