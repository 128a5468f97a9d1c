package interval

import (
	"math"
	"math/big"
	"testing"

	"dspcompiler/api"
	"dspcompiler/rational"
)

// least and greatest return one of two numbers.
func least(x, y *big.Rat) *big.Rat {
	if x.Cmp(y) < 0 {
		return x
	}
	return y
}

func greatest(x, y *big.Rat) *big.Rat {
	if x.Cmp(y) > 0 {
		return x
	}
	return y
}

// checkSets compares the meet and the hull of a and b with those of math/big.
func checkSets(t *testing.T, a, b api.Interval) {
	t.Helper()
	aLo, aHi := values(a)
	bLo, bHi := values(b)
	expect(t, Hull(a, b), least(aLo, bLo), greatest(aHi, bHi), "Hull", a, b)
	lo, hi := greatest(aLo, bLo), least(aHi, bHi)
	got, ok := Meet(a, b)
	if lo.Cmp(hi) > 0 {
		if ok || !isNothing(got) {
			t.Error("Meet of nothing", a, b, got, ok)
		}
		return
	}
	if !ok {
		t.Error("Meet", a, b)
	}
	expect(t, got, lo, hi, "Meet", a, b)
}

// P4.3
func TestMeetAndHull(t *testing.T) {
	for i, a := range samples() {
		for _, b := range append(few(i%7, 7), a) {
			checkSets(t, a, b)
		}
	}
	for _, a := range small() {
		for _, b := range small() {
			checkSets(t, a, b)
		}
	}
}

// P4.3
func TestMeetOfExamples(t *testing.T) {
	for _, x := range []struct {
		a, b, want api.Interval
		ok         bool
	}{
		{of(0, 6), of(6, 9), of(6, 6), true},
		{of(6, 9), of(6, 0), of(6, 6), true},
		{of(0, 5), of(6, 9), api.Interval{}, false},
		{of(9, 6), of(5, 0), api.Interval{}, false},
		{of(12, -6), of(3, 18), of(3, 12), true},
		{of(-6, 12), of(0, 6), of(0, 6), true},
		{of(6, 0), of(-6, 12), of(0, 6), true},
		{of(3, 3), of(3, 3), of(3, 3), true},
		{of(3, 3), of(2, 2), api.Interval{}, false},
		{api.Interval{}, of(-1, 1), of(0, 0), true},
		{api.Interval{}, of(1, 2), api.Interval{}, false},
	} {
		got, ok := Meet(x.a, x.b)
		if ok != x.ok || !ok && !isNothing(got) || ok && !same(got, x.want) {
			t.Error("Meet", x, got, ok)
		}
	}
	// There may be numbers between both that the hull has alone.
	if got := Hull(of(18, 15), of(-6, 12)); !same(got, of(-6, 18)) {
		t.Error("Hull", got)
	}
}

// floorOf returns the greatest integer that is not greater than v.
func floorOf(v *big.Rat) *big.Int {
	// The division of math/big is Euclid's, which rounds down for a positive divisor.
	return new(big.Int).Div(v.Num(), v.Denom())
}

// checkRound compares the rounded interval with that of math/big.
func checkRound(t *testing.T, a api.Interval, bits int) {
	t.Helper()
	scale := new(big.Rat).SetInt(new(big.Int).Lsh(big.NewInt(1), uint(bits)))
	lo, hi := values(a)
	down := new(big.Rat).SetInt(floorOf(lo.Mul(lo, scale)))
	// Rounding up is rounding the negation down.
	up := new(big.Rat).SetInt(floorOf(hi.Mul(hi, scale).Neg(hi)))
	got, e := Round(a, bits)
	if e != api.OK {
		t.Error("Round", a, bits, e)
	}
	expect(t, got, down.Quo(down, scale), up.Neg(up.Quo(up, scale)), "Round", a, bits)
	if !Inside(a, got) {
		t.Error("Round does not contain", a, bits, got)
	}
}

// P4.3
func TestRound(t *testing.T) {
	for _, a := range append(samples(), small()...) {
		for _, bits := range []int{0, 1, 2, 31, 32, 33, 100, api.MaxBits - 1, api.MaxBits} {
			checkRound(t, a, bits)
		}
	}
	for _, x := range []struct {
		a    api.Interval
		bits int
		want api.Interval
	}{
		{of(2, 2), 1, of(0, 3)}, {of(-2, 3), 1, of(-3, 3)}, {of(3, -2), 1, of(-3, 3)}, {of(-2, -2), 0, of(-6, 0)}, {of(3, 6), 1, of(3, 6)},
		{of(3, 6), api.MaxBits, of(3, 6)}, {of(1, 5), 0, of(0, 6)}, {api.Interval{}, 0, of(0, 0)}, {api.Interval{}, api.MaxBits, of(0, 0)},
	} {
		if got, e := Round(x.a, x.bits); e != api.OK || !same(got, x.want) {
			t.Error("Round", x, got, e)
		}
	}
}

// P4.3
func TestBitsOutOfRange(t *testing.T) {
	for _, a := range []api.Interval{{}, of(0, 0), of(2, 2), of(3, -2), Make(rational.Of(-1), rational.Of(1))} {
		for _, bits := range []int{-1, -2, api.MaxBits + 1, math.MinInt, math.MaxInt} {
			if got, e := Round(a, bits); e != api.ErrArg || !isNothing(got) {
				t.Error("bits out of range", a, bits, got, e)
			}
		}
	}
}
