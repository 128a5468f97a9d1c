package poly

import (
	"math"
	"testing"

	"dspcompiler/api"
	"dspcompiler/rational"
)

// P5.1
func TestValid(t *testing.T) {
	half, unreduced := rational.Frac(1, 2), rat(false, []uint32{2}, []uint32{4})
	for _, x := range []struct {
		p      api.Poly
		valid  bool
		degree int
		trim   api.Poly
	}{
		{nil, true, -1, nil},
		{api.Poly{}, true, -1, nil},
		{api.Poly{{}}, false, -1, nil},
		{of(0), false, -1, nil},
		{of(0, 0, 0), false, -1, nil},
		{api.Poly{rat(true, []uint32{9}, []uint32{0, 0}), {}}, false, -1, nil},
		{of(3), true, 0, of(3)},
		{of(3, 0), false, 0, of(3)},
		{of(0, 3), true, 1, of(0, 3)},
		{api.Poly{{}, half}, false, 1, api.Poly{rational.Of(0), half}},
		{api.Poly{unreduced}, false, 0, api.Poly{half}},
		{api.Poly{unreduced, half}, false, 1, api.Poly{half, half}},
		{api.Poly{half, unreduced, half}, false, 2, api.Poly{half, half, half}},
		{api.Poly{half, half, rat(false, []uint32{1, 0}, []uint32{1})}, false, 2, api.Poly{half, half, rational.Of(1)}},
		{api.Poly{half, half, rat(false, []uint32{1}, nil)}, false, 1, api.Poly{half, half}},
		{of(1, 0, 0, 1, 0, 0), false, 3, of(1, 0, 0, 1)},
	} {
		if Valid(x.p) != x.valid {
			t.Error("Valid", x.p)
		}
		if got := Degree(x.p); got != x.degree {
			t.Error("Degree", x.p, got)
		}
		if got := Trim(x.p); !same(got, x.trim) {
			t.Error("Trim", x.p, got)
		}
	}
}

// P5.1
func TestForms(t *testing.T) {
	for _, p := range append(samples(), small()...) {
		m := modelOf(p)
		if Valid(p) != canonical(p) {
			t.Error("Valid", p)
		}
		if got := Degree(p); got != len(m)-1 {
			t.Error("Degree", p, got)
		}
		expect(t, Trim(p), m, "Trim", p)
		if !Valid(Trim(p)) || !Same(p, Trim(p)) {
			t.Error("Trim", p)
		}
		for _, q := range samples() {
			if Same(p, q) != m.equals(modelOf(q)) {
				t.Error("Same", p, q)
			}
		}
	}
	for i, p := range small() {
		for j, q := range small() {
			if Same(p, q) != (i == j) {
				t.Error("Same", p, q)
			}
		}
	}
}

// P5.1
func TestMonomial(t *testing.T) {
	for _, c := range numbers() {
		for _, n := range []int{0, 1, 2, 7, api.MaxDegree - 1, api.MaxDegree} {
			got, e := Monomial(c, n)
			if e != api.OK {
				t.Error("Monomial", c, n, e)
			}
			want := append(of(make([]int, n)...), c)
			expect(t, got, modelOf(want), "Monomial", c, n)
		}
		for _, n := range []int{-1, -2, api.MaxDegree + 1, math.MinInt, math.MaxInt} {
			if got, e := Monomial(c, n); e != api.ErrDegree || got != nil {
				t.Error("Monomial", c, n, got, e)
			}
		}
	}
	if got, e := Monomial(rational.Of(5), 2); e != api.OK || !same(got, of(0, 0, 5)) {
		t.Error("Monomial", got, e)
	}
}
