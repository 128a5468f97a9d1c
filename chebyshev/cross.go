package chebyshev

import (
	"slices"

	"dspcompiler/api"
	"dspcompiler/poly"
	"dspcompiler/rational"
)

// Cross returns the polynomial in x = cos w that is the real part of B(w) times the conjugate of C(w); or ErrDegree if a degree is greater than MaxDegree.
func Cross(b, c api.Poly) (api.Poly, api.Errno) {
	if poly.Degree(b) > api.MaxDegree || poly.Degree(c) > api.MaxDegree {
		return nil, api.ErrDegree
	}
	f, unitB := whole(poly.Trim(b))
	g, unitC := whole(poly.Trim(c))
	// The conjugate of C has negative exponents. In the opposite order, its coefficients are those of C times a power, which moves the exponent 0 to the degree of C.
	slices.Reverse(g)
	p, _ := FromBasis(folded(poly.Mul(f, g), poly.Degree(c)))
	return poly.Scale(p, rational.Mul(unitB, unitC)), api.OK
}

// Magnitude returns the squared magnitude of b as a polynomial in x = cos w; or ErrDegree if the degree of b is greater than MaxDegree.
func Magnitude(b api.Poly) (api.Poly, api.Errno) {
	return Cross(b, b)
}
