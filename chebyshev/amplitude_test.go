package chebyshev

import (
	"math"
	"math/big"
	"slices"
	"testing"

	"dspcompiler/api"
	"dspcompiler/rational"
)

// amplitudeOf returns the amplitude of the definition.
func amplitudeOf(h []*big.Rat) model {
	n := len(h) / 2
	c := []*big.Rat{h[n]}
	for k := 1; k <= n; k++ {
		c = append(c, new(big.Rat).Mul(big.NewRat(2, 1), h[n+k]))
	}
	return sumOf(c)
}

// checkAmplitude compares Amplitude with the definition and with the frequency response: the sequence is e^(-inw) A(cos w).
func checkAmplitude(t *testing.T, h []api.Rat) {
	t.Helper()
	a, e := Amplitude(h)
	numbers := valuesOf(h)
	expect(t, a, e, amplitudeOf(numbers), "Amplitude", h)
	for _, q := range circle()[:6] {
		got, delay := response(numbers, q), q.power(len(h)/2)
		size := modelOf(a).at(q.re)
		if got.re.Cmp(new(big.Rat).Mul(delay.re, size)) != 0 || got.im.Cmp(new(big.Rat).Mul(delay.im, size)) != 0 {
			t.Error("the response", h, a, q)
		}
	}
	taps, f := Taps(a, len(h)/2)
	if f != api.OK || !slices.EqualFunc(taps, h, func(x, y api.Rat) bool { return canonicalRat(x) && value(x).Cmp(value(y)) == 0 }) {
		t.Error("Taps of Amplitude", h, taps, f)
	}
}

// P8.2
func TestAmplitude(t *testing.T) {
	for _, list := range append(samples(), of(0), of(0, 0), looseZeros(), []api.Rat{{}}) {
		checkAmplitude(t, mirrored(list))
	}
	for n := range 9 {
		checkAmplitude(t, mirrored(dense(n)))
		checkAmplitude(t, mirrored(long(n)))
	}
	checkAmplitude(t, mirrored(dense(api.MaxDegree)))
	checkAmplitude(t, make([]api.Rat, 2*api.MaxDegree+1))
}

// P8.2: the document's example, and the edge cases.
func TestAmplitudeExamples(t *testing.T) {
	for i, x := range []struct {
		h    []api.Rat
		want api.Poly
	}{
		{of(1, 2, 1), of(2, 2)}, {of(3), of(3)}, {of(-3, 0, -3), of(0, -6)}, {of(3, 1, 1, 1, 3), of(-5, 2, 12)}, {of(0, 1, 2, 1, 0), of(2, 2)}, {of(0, 0, 5, 0, 0), of(5)}, {of(0), nil}, {of(0, 0, 0), nil}, {[]api.Rat{{}}, nil}, {over(2, 1, 3, 1), over(2, 3, 2)},
		{[]api.Rat{rational.Of(1), {}, rat(false, []uint32{6, 0}, []uint32{6})}, of(0, 2)}, {[]api.Rat{{}, rational.Of(4), rat(true, []uint32{5}, nil)}, of(4)},
	} {
		if a, e := Amplitude(x.h); e != api.OK || !same(a, x.want) {
			t.Error(i, a, e)
		}
	}
}

// P8.2: the errors, in their order.
func TestAmplitudeErrors(t *testing.T) {
	tooLong := make([]api.Rat, 2*api.MaxDegree+3)
	uneven := slices.Concat(of(1), tooLong[1:])
	for i, x := range []struct {
		h    []api.Rat
		want api.Errno
	}{
		{nil, api.ErrArg}, {of(), api.ErrArg}, {of(1, 1), api.ErrArg}, {of(1, 2), api.ErrArg}, {of(1, 2, 2, 1), api.ErrArg}, {tooLong[1:], api.ErrArg}, {append(slices.Clone(tooLong), rational.Of(0)), api.ErrArg}, {append(slices.Clone(uneven), rational.Of(0)), api.ErrArg},
		{tooLong, api.ErrDegree}, {uneven, api.ErrDegree}, {make([]api.Rat, 1001), api.ErrDegree}, {mirrored(dense(api.MaxDegree + 1)), api.ErrDegree},
		{of(1, 2, 3), api.ErrOrder}, {of(1, 0, 0), api.ErrOrder}, {of(1, 0, -1), api.ErrOrder}, {of(-1, 0, 1), api.ErrOrder}, {of(0, 1, 0, 2, 0), api.ErrOrder}, {of(1, 5, 0, 5, 2), api.ErrOrder}, {uneven[:2*api.MaxDegree+1], api.ErrOrder}, {[]api.Rat{{}, {}, rational.Frac(1, 9)}, api.ErrOrder}, {[]api.Rat{rational.Frac(1, 3), {}, rational.Frac(1, 2)}, api.ErrOrder},
	} {
		a, e := Amplitude(x.h)
		expectError(t, a, e, x.want, "Amplitude", i)
	}
}

// P8.2
func TestTaps(t *testing.T) {
	for _, p := range append(samples(), zeros()...) {
		degree := len(modelOf(p)) - 1
		for _, n := range []int{max(degree, 0), degree + 1, degree + 2, 30, api.MaxDegree} {
			h, e := Taps(p, n)
			if e != api.OK || len(h) != 2*n+1 || slices.ContainsFunc(h, func(x api.Rat) bool { return !canonicalRat(x) }) || !amplitudeOf(valuesOf(h)).equals(modelOf(p)) {
				t.Error("Taps", p, n, h, e)
			}
			a, e := Amplitude(h)
			expect(t, a, e, modelOf(p), "Amplitude of Taps", p, n)
		}
	}
	for _, p := range []api.Poly{dense(api.MaxDegree), loose(dense(api.MaxDegree)), long(api.MaxDegree)} {
		h, e := Taps(p, api.MaxDegree)
		if e != api.OK || !amplitudeOf(valuesOf(h)).equals(modelOf(p)) {
			t.Error("Taps", p, h, e)
		}
	}
}

// P8.2: edge cases.
func TestTapsExamples(t *testing.T) {
	for i, x := range []struct {
		p    api.Poly
		n    int
		want []api.Rat
	}{
		{of(2, 2), 1, of(1, 2, 1)}, {of(-5, 2, 12), 3, of(0, 3, 1, 1, 1, 3, 0)}, {of(7), 0, of(7)}, {of(7, 0), 0, of(7)}, {of(7), 2, of(0, 0, 7, 0, 0)}, {of(0, 1), 1, over(2, 1, 0, 1)}, {of(0, 0, 1), 2, over(4, 1, 0, 2, 0, 1)}, {nil, 0, of(0)}, {of(0, 0, 0), 1, of(0, 0, 0)}, {looseZeros(), 0, of(0)}, {over(3, 1), 1, over(3, 0, 1, 0)},
	} {
		if h, e := Taps(x.p, x.n); e != api.OK || !same(h, x.want) {
			t.Error(i, h, e)
		}
	}
}

// P8.2: the errors, in their order.
func TestTapsErrors(t *testing.T) {
	for _, p := range []api.Poly{nil, of(1), of(0, 1), long(api.MaxDegree), long(api.MaxDegree + 1), long(200)} {
		for _, n := range []int{-1, -2, api.MaxDegree + 1, api.MaxDegree + 2, 200, math.MinInt, math.MaxInt} {
			h, e := Taps(p, n)
			expectError(t, h, e, api.ErrArg, "Taps", len(p), n)
		}
	}
	for _, n := range []int{0, 1, 2, 9, api.MaxDegree} {
		for _, p := range []api.Poly{long(n + 1), loose(long(n + 1)), long(2*n + 1), dense(n + 5), long(200)} {
			h, e := Taps(p, n)
			expectError(t, h, e, api.ErrDegree, "Taps", len(p), n)
		}
	}
}
