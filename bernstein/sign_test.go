package bernstein

import (
	"math/rand"
	"slices"
	"testing"

	"dspcompiler/api"
	"dspcompiler/interval"
	"dspcompiler/poly"
	"dspcompiler/rational"
)

// checkProof compares Prove with the cells of the definition, and asks Check. It reports whether there is a proof.
func checkProof(t *testing.T, p api.Poly, x api.Interval) bool {
	t.Helper()
	s, e := Prove(p, x)
	lo, hi := values(x)
	cells, ok := modelOf(p).cells(lo, hi, 0)
	if !ok {
		if e != api.ErrProof || s.Cells != nil || !same(s.On, api.Interval{}) {
			t.Error("Prove", p, x, s, e)
		}
		return false
	}
	isCell := func(a api.Interval, b api.Interval) bool { return canonical(a) && same(a, b) }
	var want []api.Interval
	for _, c := range cells {
		want = append(want, api.Interval{Lo: canonicalOf(c[0]), Hi: canonicalOf(c[1])})
	}
	if e != api.OK || !isCell(s.On, interval.Trim(x)) || !slices.EqualFunc(s.Cells, want, isCell) {
		t.Error("Prove", p, x, s, e, want)
	}
	if f := Check(p, s); f != api.OK {
		t.Error("Check", p, s, f)
	}
	return true
}

// P7.2, P7.3
func TestProve(t *testing.T) {
	proofs, refusals := 0, 0
	for _, p := range samples() {
		for _, x := range intervals() {
			if checkProof(t, p, x) {
				proofs++
			} else {
				refusals++
			}
		}
	}
	if proofs < 100 || refusals < 100 {
		t.Error("the samples are one-sided", proofs, refusals)
	}
}

// P7.2, P7.3
func TestRandomProofs(t *testing.T) {
	r := rand.New(rand.NewSource(8))
	for range 150 {
		p := api.Poly{rational.Frac(1+r.Intn(9), 30)}
		for range 1 + r.Intn(3) {
			q := api.Poly{rational.Frac(r.Intn(13)-6, 5), rational.Frac(r.Intn(9)-4, 3), rational.Frac(r.Intn(5)-2, 2)}
			p = poly.Add(p, square(q))
		}
		checkProof(t, p, api.Interval{Lo: rational.Frac(r.Intn(13)-6, 1+r.Intn(3)), Hi: rational.Frac(r.Intn(13)-6, 1+r.Intn(3))})
	}
}

// P7.2: the document's examples, and the edge cases.
func TestProveExamples(t *testing.T) {
	quarter := poly.Add(of(0, 0, 1), number(1, 4))
	for i, x := range []struct {
		p    api.Poly
		on   api.Interval
		want api.Sign
	}{
		{quarter, on(-4, 4), api.Sign{On: on(-4, 4), Cells: []api.Interval{on(-4, 0), on(0, 4)}}}, {quarter, on(4, -4), api.Sign{On: on(-4, 4), Cells: []api.Interval{on(-4, 0), on(0, 4)}}}, {quarter, on(0, 4), api.Sign{On: on(0, 4), Cells: []api.Interval{on(0, 4)}}},
		{of(3), on(8, -8), api.Sign{On: on(-8, 8), Cells: []api.Interval{on(-8, 8)}}}, {of(3, 1), on(4, 4), api.Sign{On: on(4, 4), Cells: []api.Interval{on(4, 4)}}}, {of(0, 0, 1), on(4, 4), api.Sign{On: on(4, 4), Cells: []api.Interval{on(4, 4)}}},
		{poly.Add(square(of(-1, 4)), number(1, 2)), on(0, 4), api.Sign{On: on(0, 4), Cells: []api.Interval{on(0, 1), on(1, 2), on(2, 4)}}},
	} {
		if s, e := Prove(x.p, x.on); e != api.OK || !sameSign(s, x.want) {
			t.Error(i, s, e)
		}
	}
	for i, x := range []struct {
		p  api.Poly
		on api.Interval
	}{
		{of(0, 0, 1), on(0, 4)}, {of(0, 0, 1), on(-4, 4)}, {of(-1), on(0, 4)}, {of(-1, 3), on(0, 4)}, {of(1, -3), on(0, 4)}, {of(-3, 1), on(4, 4)}, {of(-1, 1), on(4, 4)}, {of(1, -6, 9), on(0, 4)}, {of(-1, 0, 1), on(-4, 4)},
	} {
		if s, e := Prove(x.p, x.on); e != api.ErrProof || s.Cells != nil || !same(s.On, api.Interval{}) {
			t.Error("no proof", i, s, e)
		}
	}
	for _, p := range zeros() {
		if s, e := Prove(p, on(0, 4)); e != api.ErrProof || s.Cells != nil || !same(s.On, api.Interval{}) {
			t.Error("a proof of 0", s, e)
		}
	}
}

// P7.2: a cell may have the depth MaxDepth, and no greater one.
func TestProveDepth(t *testing.T) {
	refused, deepest := 0, 0
	for k := range 30 {
		// The square of x - 1/3 is less than 4^(-d) on the cell of the depth d that contains its root, and a little number is added to it.
		little := rational.Of(1)
		for range k {
			little = rational.Mul(little, rational.Frac(1, 2))
		}
		p := poly.Add(square(api.Poly{rational.Frac(-1, 3), rational.Of(1)}), api.Poly{little})
		if !checkProof(t, p, on(0, 4)) {
			refused++
			continue
		}
		s, _ := Prove(p, on(0, 4))
		for _, c := range s.Cells {
			for d := range api.MaxDepth + 2 {
				if natural(interval.Width(c).Den).BitLen() == d+1 {
					deepest = max(deepest, d)
				}
			}
		}
	}
	if deepest != api.MaxDepth || refused < 3 || refused > 10 {
		t.Error(deepest, refused)
	}
}

// P7.2, P7.3: the degree counts, and not the number of elements; its error is the first one.
func TestProveDegree(t *testing.T) {
	for _, x := range []struct {
		p    api.Poly
		want api.Errno
	}{
		{long(api.MaxDegree), api.OK}, {loose(long(api.MaxDegree)), api.OK}, {long(api.MaxDegree + 1), api.ErrDegree}, {poly.Scale(long(api.MaxDegree+1), rational.Of(-1)), api.ErrDegree}, {loose(long(api.MaxDegree + 5)), api.ErrDegree}, {poly.Scale(long(api.MaxDegree), rational.Of(-1)), api.ErrProof},
	} {
		s, e := Prove(x.p, on(0, 4))
		if e != x.want || (e != api.OK && (s.Cells != nil || !same(s.On, api.Interval{}))) {
			t.Error("Prove", len(x.p), s, e)
		}
		if e := Check(x.p, api.Sign{On: on(0, 4), Cells: []api.Interval{on(0, 1), on(1, 4)}}); e != x.want {
			t.Error("Check", len(x.p), e)
		}
	}
	for _, s := range []api.Sign{{}, {On: on(0, 4), Cells: []api.Interval{on(0, 3)}}} {
		if e := Check(long(api.MaxDegree+1), s); e != api.ErrDegree {
			t.Error("Check", s, e)
		}
	}
	p := poly.Add(chebyshev(api.MaxDegree), number(101, 100))
	if s, e := Prove(p, on(-4, 4)); e != api.OK || len(s.Cells) < 40 || Check(p, s) != api.OK {
		t.Error("a long polynomial", len(s.Cells), e)
	}
}

// P7.3
func TestCheck(t *testing.T) {
	quarter := poly.Add(of(0, 0, 1), number(1, 4))
	cells := func(list ...api.Interval) []api.Interval { return list }
	for i, x := range []struct {
		on    api.Interval
		cells []api.Interval
		want  api.Errno
	}{
		{on(-4, 4), cells(on(-4, 0), on(0, 4)), api.OK}, {on(-4, 4), cells(on(0, -4), on(4, 0)), api.OK}, {on(4, -4), cells(on(-4, 0), on(0, 4)), api.OK}, {turned(on(-4, 4)), cells(turned(on(-4, 0)), turned(on(0, 4))), api.OK},
		{on(-4, 4), cells(on(-4, -2), on(-2, -2), on(-2, 0), on(0, 1), on(1, 4)), api.OK}, {on(-4, 4), cells(on(-4, -4), on(-4, 0), on(0, 4), on(4, 4)), api.OK}, {on(0, 0), cells(on(0, 0)), api.OK}, {on(0, 0), cells(on(0, 0), on(0, 0)), api.OK}, {api.Interval{}, cells(api.Interval{}), api.OK}, {on(0, 4), cells(on(0, 4)), api.OK}, {on(-1, 4), cells(on(-1, 1), on(1, 4)), api.OK},
		// Not all coefficients are positive.
		{on(-4, 4), cells(on(-4, 4)), api.ErrProof}, {on(-4, 8), cells(on(-4, 4), on(4, 8)), api.ErrProof}, {on(-8, 4), cells(on(-8, -4), on(-4, 4)), api.ErrProof}, {on(-2, 2), cells(on(-2, 2)), api.ErrProof},
		// The cells do not cover the interval, or more than it.
		{on(-4, 4), nil, api.ErrProof}, {on(-4, 4), cells(), api.ErrProof}, {on(0, 0), nil, api.ErrProof}, {api.Interval{}, nil, api.ErrProof},
		{on(-4, 4), cells(on(-4, 0)), api.ErrProof}, {on(-4, 4), cells(on(0, 4)), api.ErrProof}, {on(-4, 4), cells(on(-4, 0), on(0, 3)), api.ErrProof}, {on(-4, 4), cells(on(-4, 0), on(0, 5)), api.ErrProof}, {on(-4, 4), cells(on(-5, 0), on(0, 4)), api.ErrProof}, {on(-4, 4), cells(on(-3, 0), on(0, 4)), api.ErrProof},
		{on(-4, 4), cells(on(-4, 0), on(1, 4)), api.ErrProof}, {on(-4, 4), cells(on(-4, 0), on(-1, 4)), api.ErrProof}, {on(-4, 4), cells(on(0, 4), on(-4, 0)), api.ErrProof}, {on(-4, 4), cells(on(-4, 0), on(0, 4), on(0, 4)), api.ErrProof}, {on(-4, 4), cells(on(-4, 0), on(-4, 0), on(0, 4)), api.ErrProof},
		{on(-4, 4), cells(on(4, 4)), api.ErrProof}, {on(-4, 4), cells(on(-4, -4)), api.ErrProof}, {on(-4, 4), cells(on(-4, 0), on(4, 0), on(0, 4)), api.ErrProof}, {on(0, 0), cells(on(0, 4)), api.ErrProof}, {on(0, 0), cells(on(-4, 0)), api.ErrProof},
	} {
		if e := Check(quarter, api.Sign{On: x.on, Cells: x.cells}); e != x.want {
			t.Error(i, e)
		}
	}
}

// P7.3: coefficients that are 0, and values that are not positive.
func TestCheckSigns(t *testing.T) {
	for i, x := range []struct {
		p    api.Poly
		on   api.Interval
		want api.Errno
	}{
		{of(0, 1), on(0, 4), api.ErrProof}, {of(0, 1), on(1, 4), api.OK}, {of(1, -1), on(0, 4), api.ErrProof}, {of(1, -1), on(0, 3), api.OK}, {of(0, 0, 1), on(0, 0), api.ErrProof}, {of(0, 0, 1), on(1, 1), api.OK}, {of(-1), on(0, 4), api.ErrProof}, {number(1, 1000), on(0, 4), api.OK},
		{of(-2, 1), on(4, 4), api.ErrProof}, {of(1, -2, 1), on(0, 8), api.ErrProof}, {of(1, 0, 1), on(-4, 4), api.ErrProof}, {of(1, 0, 1), on(-3, 4), api.OK}, {number(-1, 3), on(0, 0), api.ErrProof}, {api.Poly{rational.Frac(1, 3), rational.Frac(-1, 3)}, on(0, 3), api.OK},
	} {
		if e := Check(x.p, api.Sign{On: x.on, Cells: []api.Interval{x.on}}); e != x.want {
			t.Error(i, e)
		}
	}
	for _, p := range zeros() {
		if e := Check(p, api.Sign{On: on(0, 4), Cells: []api.Interval{on(0, 4)}}); e != api.ErrProof {
			t.Error("Check of 0", p, e)
		}
	}
}

// P7.3: what Check says of one cell is what the definition says.
func TestCheckSamples(t *testing.T) {
	for _, p := range samples() {
		for _, x := range intervals() {
			want := api.ErrProof
			if lo, hi := values(x); modelOf(p).isProved(lo, hi) {
				want = api.OK
			}
			if e := Check(p, api.Sign{On: x, Cells: []api.Interval{turned(x)}}); e != want {
				t.Error(p, x, e, want)
			}
		}
	}
}

// Consequences: p is positive wherever there is a proof.
func TestProofsAreTrue(t *testing.T) {
	for _, p := range samples() {
		for _, x := range intervals() {
			s, e := Prove(p, x)
			for k := range 9 {
				at := rational.Add(interval.Trim(x).Lo, rational.Mul(interval.Width(x), rational.Frac(k, 8)))
				if e == api.OK && rational.Sign(poly.Eval(p, at)) <= 0 {
					t.Error(p, x, s, k)
				}
			}
		}
	}
}
