package sturm

import (
	"math/big"
	"slices"
	"testing"

	"dspcompiler/api"
	"dspcompiler/interval"
	"dspcompiler/poly"
	"dspcompiler/rational"
)

// P6.1: Sturm's theorem alone, which Descartes' rule leaves few polynomials to.
func TestVariations(t *testing.T) {
	for _, p := range samples() {
		c, m := chainOf(p), modelOf(p)
		for _, x := range intervals() {
			lo, hi := values(x)
			want := m.count(lo, hi)
			if m.signAt(lo) == 0 {
				want--
			}
			x = interval.Trim(x)
			if got := c.variations(x.Lo) - c.variations(x.Hi); got != want {
				t.Error("variations", p, x, got, want)
			}
		}
	}
}

// P6.1: the elements of the chain are integers without a common divisor, with the signs that Sturm's theorem needs.
func TestChain(t *testing.T) {
	for _, p := range samples() {
		c := chainOf(p)
		want := []model{modelOf(p), modelOf(p).derivative()}
		for i := 2; len(want[i-1]) > 0; i++ {
			_, rest := want[i-2].divMod(want[i-1])
			want = append(want, rest.scaled(big.NewRat(-1, 1)))
		}
		if len(c) != len(want)-1 {
			t.Fatal("the length of the chain", p, len(c), len(want))
		}
		for i, q := range c {
			checkMultiple(t, q, want[i])
		}
	}
}

// checkMultiple checks that p is the positive multiple of a polynomial whose coefficients are integers without a common divisor.
func checkMultiple(t *testing.T, p api.Poly, m model) {
	t.Helper()
	divisor := new(big.Int)
	for _, c := range p {
		if !canonicalRat(c) || !value(c).IsInt() {
			t.Error("not an integer", p)
		}
		divisor.GCD(nil, nil, divisor, natural(c.Num.Mag))
	}
	if len(p) != len(m) || divisor.Cmp(big.NewInt(1)) != 0 {
		t.Fatal("not primitive", p, m)
	}
	factor := new(big.Rat).Quo(value(p[len(p)-1]), m[len(m)-1])
	for i, c := range m.scaled(factor) {
		if factor.Sign() <= 0 || value(p[i]).Cmp(c) != 0 {
			t.Error("no positive multiple", p, m)
		}
	}
}

// P6.1: Descartes' rule of signs gives 0 and 1 only if they are the number of roots, and the signs near the ends are right.
func TestPieces(t *testing.T) {
	for _, p := range samples() {
		for _, on := range intervals() {
			on = interval.Trim(on)
			if rational.Compare(on.Lo, on.Hi) < 0 {
				checkPiece(t, p, pieceOf(p, on))
				left, right := pieceOf(p, on).halves()
				checkPiece(t, p, left)
				checkPiece(t, p, right)
				_, inner := left.halves()
				checkPiece(t, p, inner)
			}
		}
	}
}

func checkPiece(t *testing.T, p api.Poly, x piece) {
	t.Helper()
	m := modelOf(p)
	lo, hi := values(x.on)
	open := m.count(lo, hi)
	for _, end := range []*big.Rat{lo, hi} {
		if m.signAt(end) == 0 {
			open--
		}
	}
	if n := x.bound(); n < open || n <= 1 && n != open || n > poly.Degree(p) {
		t.Error("bound", p, x.on, n, open)
	}
	if x.signAtStart() != m.signAt(lo) || x.signAtEnd() != m.signAt(hi) {
		t.Error("signs at the ends", p, x.on)
	}
	for _, c := range append(slices.Clone(x.up), x.down...) {
		if !canonicalRat(c) || !value(c).IsInt() {
			t.Error("not an integer", p, x.on)
		}
	}
	after := signAfter(p, x.on.Lo)
	before := signAfter(mirrored(p), rational.Neg(x.on.Hi))
	if x.isNegative() != (after < 0 || before < 0) {
		t.Error("isNegative", p, x.on, after, before)
	}
}

// mirrored returns p(-x).
func mirrored(p api.Poly) api.Poly {
	q, _ := poly.Compose(p, of(0, -1))
	return q
}

// P6.1 and P6.4: the parts cover the interval, one beside the other.
func TestParts(t *testing.T) {
	for _, p := range samples() {
		for _, on := range intervals() {
			var last api.Rat
			count := 0
			for x := range parts(p, on) {
				if count > 0 && rational.Compare(last, x.on.Lo) != 0 || x.roots < 0 || x.roots > 1 {
					t.Error("a part", p, on, x)
				}
				if isPoint := rational.Compare(x.on.Lo, x.on.Hi) == 0; isPoint != (count%2 == 0) {
					t.Error("points and open intervals do not alternate", p, on, x)
				}
				last = x.on.Hi
				count++
			}
			if lo, hi := values(on); count%2 == 0 || value(last).Cmp(hi) != 0 || (count == 1) != (lo.Cmp(hi) == 0) {
				t.Error("parts", p, on, count, last)
			}
		}
	}
}
