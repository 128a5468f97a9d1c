package bernstein

import (
	"math/big"
	"math/rand"
	"slices"
	"testing"

	"dspcompiler/api"
	"dspcompiler/interval"
	"dspcompiler/poly"
	"dspcompiler/rational"
)

// checkCoefficients compares Coefficients and Range with the models and with the definition.
func checkCoefficients(t *testing.T, p api.Poly, x api.Interval) {
	t.Helper()
	list, m := Coefficients(p, x), modelOf(p)
	lo, hi := values(x)
	if len(list) != len(m) {
		t.Fatal("Coefficients", p, x, list)
	}
	want := m.coefficients(lo, hi)
	for i, c := range list {
		if !canonicalRat(c) || value(c).Cmp(want[i]) != 0 {
			t.Error("Coefficients", p, x, i, c, want[i])
		}
	}
	least, greatest := leastAndGreatest(want)
	if r := Range(p, x); !canonical(r) || value(r.Lo).Cmp(least) != 0 || value(r.Hi).Cmp(greatest) != 0 {
		t.Error("Range", p, x, r, least, greatest)
	}
}

// checkDefinition compares the sum of the definition with the value at more numbers than the degree.
func checkDefinition(t *testing.T, p api.Poly, x api.Interval) {
	t.Helper()
	var list []*big.Rat
	for _, c := range Coefficients(p, x) {
		list = append(list, value(c))
	}
	lo, hi := values(x)
	m := modelOf(p)
	for k := range int64(len(m) + 1) {
		at := big.NewRat(k-2, 3)
		if bernsteinSum(list, at).Cmp(m.at(mix(lo, hi, at))) != 0 {
			t.Error("the definition", p, x, at)
		}
	}
}

// P7.1
func TestCoefficients(t *testing.T) {
	for _, p := range append(samples(), zeros()...) {
		for _, x := range intervals() {
			checkCoefficients(t, p, x)
			checkDefinition(t, p, x)
		}
	}
}

// P7.1
func TestRandomCoefficients(t *testing.T) {
	r := rand.New(rand.NewSource(7))
	for range 300 {
		var p api.Poly
		for range r.Intn(9) {
			p = append(p, rational.Frac(r.Intn(41)-20, 1+r.Intn(12)))
		}
		x := api.Interval{Lo: rational.Frac(r.Intn(41)-20, 1+r.Intn(12)), Hi: rational.Frac(r.Intn(41)-20, 1+r.Intn(12))}
		checkCoefficients(t, p, x)
		checkDefinition(t, p, x)
	}
}

// P7.1: there is no limit of the degree.
func TestCoefficientsOfLongPolynomials(t *testing.T) {
	for _, degree := range []int{48, 49, 100} {
		checkCoefficients(t, chebyshev(degree), on(-4, 4))
		checkCoefficients(t, long(degree), on(-3, 5))
	}
	list := Coefficients(long(4*api.MaxDegree+7), on(0, 4))
	if len(list) != 4*api.MaxDegree+8 || !sameRat(list[len(list)-1], rational.Of(2)) || !sameRat(list[len(list)-2], rational.Of(1)) {
		t.Error(len(list))
	}
	if r := Range(long(4*api.MaxDegree+7), on(0, 4)); !same(r, on(4, 8)) {
		t.Error(r)
	}
}

// P7.1: the document's examples, and the edge cases.
func TestCoefficientsExamples(t *testing.T) {
	for i, x := range []struct {
		p    api.Poly
		on   api.Interval
		want []api.Rat
	}{
		{of(0, 0, 1), on(0, 4), of(0, 0, 1)}, {of(0, 0, 1), on(-4, 4), of(1, -1, 1)}, {of(0, 0, 1), on(4, -4), of(1, -1, 1)}, {of(0, 1, 0), on(8, 4), of(1, 2)},
		{of(5), on(0, 4), of(5)}, {of(5, 0, 0), on(0, 4), of(5)}, {of(1, 1), on(4, 4), of(2, 2)}, {of(0, 0, 0, 1), on(8, 8), of(8, 8, 8, 8)}, {of(0, 0, 1), api.Interval{}, of(0, 0, 0)}, {of(-1, 0, 1), on(4, 4), of(0, 0, 0)},
		{of(0, 1, 1), on(0, 4), api.Poly{rational.Of(0), rational.Frac(1, 2), rational.Of(2)}}, {of(0, 0, 0, 1), on(0, 2), api.Poly{rational.Of(0), rational.Of(0), rational.Of(0), rational.Frac(1, 8)}},
	} {
		if list := Coefficients(x.p, x.on); !slices.EqualFunc(list, x.want, sameRat) {
			t.Error(i, list, x.want)
		}
	}
	for _, p := range zeros() {
		for _, x := range intervals() {
			if list := Coefficients(p, x); len(list) != 0 {
				t.Error("Coefficients of 0", list)
			}
			if r := Range(p, x); !same(r, on(0, 0)) {
				t.Error("Range of 0", r)
			}
		}
	}
	for i, x := range []struct{ got, want api.Interval }{
		{Range(of(0, 0, 1), on(-4, 4)), on(-4, 4)}, {Range(of(0, 0, 1), on(0, 4)), on(0, 4)}, {Range(of(0, 0, -1), on(0, 4)), on(-4, 0)}, {Range(of(5), on(0, 4)), on(20, 20)}, {Range(of(0, -1), on(4, 8)), on(-8, -4)}, {Range(of(2, -9, 7), on(4, 4)), on(0, 0)},
	} {
		if !same(x.got, x.want) {
			t.Error(i, x.got, x.want)
		}
	}
}

// Consequences: the first and the last coefficient are the values at the ends, and all values lie in the range.
func TestValuesAreInRange(t *testing.T) {
	for _, p := range samples() {
		for _, x := range intervals() {
			list, r := Coefficients(p, x), Range(p, x)
			trimmed := interval.Trim(x)
			if !sameRat(list[0], poly.Eval(p, trimmed.Lo)) || !sameRat(list[len(list)-1], poly.Eval(p, trimmed.Hi)) {
				t.Error("the values at the ends", p, x, list)
			}
			for k := range 9 {
				at := rational.Add(trimmed.Lo, rational.Mul(interval.Width(x), rational.Frac(k, 8)))
				if !interval.Contains(r, poly.Eval(p, at)) {
					t.Error("a value outside", p, x, k)
				}
			}
		}
	}
}

// P7.1: the numbers with which the package computes are integers.
func TestIntegers(t *testing.T) {
	for _, p := range samples() {
		for _, x := range intervals() {
			weighted, scale := weigh(p, x)
			for i, c := range weighted {
				want := rational.Mul(rational.Mul(Coefficients(p, x)[i], scale), binomials(len(weighted))[i])
				if value(c).Cmp(value(want)) != 0 || !value(c).IsInt() || rational.Sign(scale) <= 0 {
					t.Error("weigh", p, x, i, c, scale)
				}
			}
		}
	}
}
