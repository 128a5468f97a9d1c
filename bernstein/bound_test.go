package bernstein

import (
	"math"
	"testing"

	"dspcompiler/api"
	"dspcompiler/interval"
	"dspcompiler/poly"
	"dspcompiler/rational"
)

// checkBound compares Bound with the definition.
func checkBound(t *testing.T, p api.Poly, x api.Interval, depth int) {
	t.Helper()
	b, e := Bound(p, x, depth)
	lo, hi := values(x)
	least, greatest := modelOf(p).bound(lo, hi, 1<<depth)
	if e != api.OK || !canonical(b) || value(b.Lo).Cmp(least) != 0 || value(b.Hi).Cmp(greatest) != 0 {
		t.Error("Bound", p, x, depth, b, e, least, greatest)
	}
}

// P7.4
func TestBound(t *testing.T) {
	for i, p := range append(samples(), zeros()...) {
		for j, x := range intervals() {
			checkBound(t, p, x, 0)
			checkBound(t, p, x, 1)
			checkBound(t, p, x, 2+(i+j)%4)
		}
	}
	checkBound(t, of(0, -3, 0, 4), on(-4, 4), 10)
	checkBound(t, of(1, -6, 9), on(0, 4), api.MaxDepth)
	checkBound(t, chebyshev(15), on(-3, 4), 5)
	checkBound(t, chebyshev(api.MaxDegree), on(-4, 4), 2)
}

// P7.4: edge cases.
func TestBoundExamples(t *testing.T) {
	for i, x := range []struct {
		p     api.Poly
		on    api.Interval
		depth int
		want  api.Interval
	}{
		{of(0, 0, 1), on(-4, 4), 0, on(-4, 4)}, {of(0, 0, 1), on(-4, 4), 1, on(0, 4)}, {of(0, 0, 1), on(4, -4), api.MaxDepth, on(0, 4)}, {of(0, -1, 1), on(0, 4), 0, on(-2, 0)}, {of(0, -1, 1), on(0, 4), 1, on(-1, 0)},
		{of(7), on(0, 4), 5, on(28, 28)}, {of(1, 1), on(4, 4), api.MaxDepth, on(8, 8)}, {of(0, 1), on(4, 8), api.MaxDepth, on(4, 8)}, {of(0, -1), on(4, 8), 3, on(-8, -4)}, {nil, on(4, 8), api.MaxDepth, on(0, 0)}, {of(0, 0), api.Interval{}, 0, on(0, 0)},
	} {
		if b, e := Bound(x.p, x.on, x.depth); e != api.OK || !same(b, x.want) {
			t.Error(i, b, e)
		}
	}
}

// P7.4: the errors, in their order.
func TestBoundErrors(t *testing.T) {
	for i, x := range []struct {
		p     api.Poly
		depth int
		want  api.Errno
	}{
		{of(1), -1, api.ErrArg}, {of(1), api.MaxDepth + 1, api.ErrArg}, {nil, math.MinInt, api.ErrArg}, {of(0, 1), math.MaxInt, api.ErrArg}, {long(api.MaxDegree + 1), -1, api.ErrArg}, {long(api.MaxDegree + 1), api.MaxDepth + 1, api.ErrArg},
		{long(api.MaxDegree + 1), 0, api.ErrDegree}, {loose(long(api.MaxDegree + 1)), api.MaxDepth, api.ErrDegree}, {loose(long(api.MaxDegree)), 0, api.OK}, {long(api.MaxDegree), api.MaxDepth, api.OK},
	} {
		b, e := Bound(x.p, on(0, 4), x.depth)
		if e != x.want || (e != api.OK && !same(b, api.Interval{})) {
			t.Error(i, b, e)
		}
	}
}

// Consequences: the bound contains all values, and shrinks with the depth.
func TestBoundShrinks(t *testing.T) {
	for i, p := range samples() {
		x := intervals()[i%len(intervals())]
		before := Range(p, x)
		for depth := range 7 {
			b, _ := Bound(p, x, depth)
			if !interval.Inside(b, before) {
				t.Error("it does not shrink", p, x, depth)
			}
			before = b
			for k := range 17 {
				at := rational.Add(interval.Trim(x).Lo, rational.Mul(interval.Width(x), rational.Frac(k, 16)))
				if !interval.Contains(b, poly.Eval(p, at)) {
					t.Error("a value outside", p, x, depth, k)
				}
			}
		}
	}
	// The values of a Chebyshev polynomial are from -1 to 1.
	b, _ := Bound(chebyshev(20), on(-4, 4), api.MaxDepth)
	if !interval.Inside(b, api.Interval{Lo: rational.Frac(-1001, 1000), Hi: rational.Frac(1001, 1000)}) {
		t.Error("it is too wide", b)
	}
}
