package sturm

import (
	"math"
	"math/big"
	"testing"

	"dspcompiler/api"
	"dspcompiler/poly"
	"dspcompiler/rational"
)

// checkIsolation checks what P6.3 says of the intervals.
func checkIsolation(t *testing.T, p api.Poly, x api.Interval, bits int) {
	t.Helper()
	list, e := Isolate(p, x, bits)
	m := modelOf(p)
	lo, hi := values(x)
	count := m.counter()
	if e != api.OK || len(list) != count(lo, hi) {
		t.Fatalf("Isolate(%v, %v, %d) is %v, %d", p, x, bits, list, e)
	}
	width := value(tiny(bits))
	for i, y := range list {
		a, b := value(y.Lo), value(y.Hi)
		if !canonical(y) || a.Cmp(lo) < 0 || b.Cmp(hi) > 0 || new(big.Rat).Sub(b, a).Cmp(width) > 0 || count(a, b) != 1 {
			t.Errorf("Isolate(%v, %v, %d): %v is wrong", p, x, bits, y)
		}
		if i > 0 && value(list[i-1].Hi).Cmp(a) > 0 {
			t.Errorf("Isolate(%v, %v, %d): %v is not behind %v", p, x, bits, y, list[i-1])
		}
	}
}

// P6.3
func TestIsolate(t *testing.T) {
	for i, p := range samples() {
		for j, x := range intervals() {
			checkIsolation(t, p, x, []int{0, 1, 5, 20, 33}[(i+j)%5])
		}
	}
}

// P6.3: roots at the ends of an interval, and in the middle of its parts, which must not be in an interval of another root.
func TestNeighbours(t *testing.T) {
	for _, p := range []api.Poly{
		of(0, -1, 0, 1), product(of(0, 1), of(-1, 2), of(-1, 4), of(-1, 8), of(-3, 4)), product(of(0, 1), of(-1, 3), of(-1, 1)), product(of(0, 1), of(-1, 0, 8)), product(of(-1, 2), of(-1, 0, 3)),
		product(of(-1, 1), of(-99, 100), of(1, -100)), product(of(-1, 2), of(-999, 2000)), product(of(-1, 2), of(-1001, 2000), of(-999, 2000)), product(repeated(of(-1, 2), 2), of(-1, 0, 4), of(-1001, 2000)),
	} {
		for _, x := range []api.Interval{on(0, 4), on(-4, 4), on(0, 2), on(2, 4), on(1, 3), on(4, -8)} {
			for _, bits := range []int{0, 1, 2, 12} {
				checkIsolation(t, p, x, bits)
				checkIsolation(t, repeated(p, 2), x, bits)
			}
		}
	}
}

// P6.3: the narrowest intervals, the greatest degree, and many roots.
func TestNarrow(t *testing.T) {
	checkIsolation(t, of(-2, 0, 1), on(-8, 8), api.MaxBits)
	checkIsolation(t, repeated(of(-2, 0, 1), 2), on(-800000, 800000), api.MaxBits)
	checkIsolation(t, of(-1, 3), on(0, 4), api.MaxBits)
	checkIsolation(t, of(-1, 0, 4), on(-4, 4), api.MaxBits)
	checkIsolation(t, repeated(of(-2, 0, 3), api.MaxDegree/2), on(-4, 4), 10)
	list, e := Isolate(chebyshev(api.MaxDegree), on(-4, 4), 12)
	if len(list) != api.MaxDegree || e != api.OK {
		t.Error("Isolate", len(list), e)
	}
	// Each root is between two signs.
	m := modelOf(chebyshev(api.MaxDegree))
	for i, x := range list {
		if m.signAt(value(x.Lo))*m.signAt(value(x.Hi)) != -1 || i > 0 && rational.Compare(list[i-1].Hi, x.Lo) > 0 {
			t.Error("an interval", i, x)
		}
	}
}

// P6.3: the errors in their order.
func TestErrorsOfIsolate(t *testing.T) {
	for _, bits := range []int{-1, -7, math.MinInt, api.MaxBits + 1, 1000, math.MaxInt} {
		for _, p := range []api.Poly{of(0, 1), nil, long(api.MaxDegree + 1), of(5)} {
			if list, e := Isolate(p, on(-4, 4), bits); list != nil || e != api.ErrArg {
				t.Error("bits", bits, list, e)
			}
		}
	}
	for _, bits := range []int{0, 1, api.MaxBits} {
		for _, x := range []struct {
			p    api.Poly
			want api.Errno
		}{{nil, api.ErrZero}, {of(0, 0), api.ErrZero}, {long(api.MaxDegree + 1), api.ErrDegree}, {loose(long(60)), api.ErrDegree}} {
			if list, e := Isolate(x.p, on(-4, 4), bits); list != nil || e != x.want {
				t.Error("errors", bits, list, e)
			}
		}
	}
}

// P6.3: intervals of other lengths than powers of 2 are cut until they are narrow enough.
func TestWidths(t *testing.T) {
	for n := 1; n < 40; n++ {
		x := api.Interval{Lo: rational.Frac(-1, n), Hi: rational.Frac(n, 7)}
		for bits := range 4 {
			checkIsolation(t, of(-1, 29), x, bits)
			checkIsolation(t, poly.Sub(of(0, 0, 50), of(1)), x, bits)
		}
	}
}
