package interval

import (
	"math/big"
	"testing"

	"dspcompiler/api"
	"dspcompiler/rational"
)

// P4.1
func TestValidAndTrim(t *testing.T) {
	zero, half, unreduced := rational.Of(0), rational.Frac(1, 2), rat(false, []uint32{2}, []uint32{4})
	for _, x := range []struct {
		a     api.Interval
		valid bool
		trim  api.Interval
	}{
		{api.Interval{}, false, of(0, 0)},
		{api.Interval{Lo: zero}, false, of(0, 0)},
		{api.Interval{Hi: zero}, false, of(0, 0)},
		{api.Interval{Lo: zero, Hi: zero}, true, of(0, 0)},
		{api.Interval{Lo: rat(true, nil, []uint32{1}), Hi: zero}, false, of(0, 0)},
		{api.Interval{Lo: zero, Hi: half}, true, of(0, 3)},
		{api.Interval{Lo: half, Hi: zero}, false, of(0, 3)},
		{api.Interval{Lo: half, Hi: half}, true, of(3, 3)},
		{api.Interval{Lo: unreduced, Hi: half}, false, of(3, 3)},
		{api.Interval{Lo: half, Hi: unreduced}, false, of(3, 3)},
		{api.Interval{Lo: half, Hi: rat(true, []uint32{7}, nil)}, false, of(0, 3)},
		{of(-3, -2), true, of(-3, -2)},
		{of(-2, -3), false, of(-3, -2)},
		{of(12, -6), false, of(-6, 12)},
	} {
		if Valid(x.a) != x.valid {
			t.Error("Valid", x.a)
		}
		if got := Trim(x.a); !same(got, x.trim) {
			t.Error("Trim", x.a, got)
		}
	}
	for _, a := range samples() {
		if Valid(a) != canonical(a) {
			t.Error("Valid", a)
		}
		lo, hi := values(a)
		expect(t, Trim(a), lo, hi, "Trim", a)
		if !Valid(Trim(a)) {
			t.Error("Valid of Trim", a)
		}
	}
}

// P4.1
func TestMake(t *testing.T) {
	for _, a := range samples() {
		lo, hi := values(a)
		expect(t, Make(a.Lo, a.Hi), lo, hi, "Make", a.Lo, a.Hi)
	}
}

// P4.1
func TestContains(t *testing.T) {
	for _, a := range samples() {
		lo, hi := values(a)
		for _, x := range numbers() {
			v := value(x)
			if want := lo.Cmp(v) <= 0 && v.Cmp(hi) <= 0; Contains(a, x) != want {
				t.Error("Contains", a, x)
			}
		}
	}
	for _, a := range small() {
		lo, hi := values(a)
		for x := -8; x <= 8; x++ {
			v := big.NewRat(int64(x), 12)
			if want := lo.Cmp(v) <= 0 && v.Cmp(hi) <= 0; Contains(a, rational.Frac(x, 12)) != want {
				t.Error("Contains", a, x)
			}
		}
	}
}

// checkInside compares the ends of both intervals.
func checkInside(t *testing.T, a, b api.Interval) {
	t.Helper()
	aLo, aHi := values(a)
	bLo, bHi := values(b)
	if want := bLo.Cmp(aLo) <= 0 && aHi.Cmp(bHi) <= 0; Inside(a, b) != want {
		t.Error("Inside", a, b)
	}
}

// P4.1
func TestInside(t *testing.T) {
	for i, a := range samples() {
		for _, b := range append(few(i%7, 7), a) {
			checkInside(t, a, b)
		}
	}
	for _, a := range small() {
		for _, b := range small() {
			checkInside(t, a, b)
		}
	}
}

// P4.1
func TestSign(t *testing.T) {
	for _, a := range append(samples(), small()...) {
		lo, hi := values(a)
		want := 0
		if lo.Sign() > 0 {
			want = 1
		}
		if hi.Sign() < 0 {
			want = -1
		}
		if got := Sign(a); got != want {
			t.Error("Sign", a, got)
		}
	}
	for _, x := range []struct{ lo, hi, want int }{
		{0, 0, 0}, {0, 1, 0}, {-1, 0, 0}, {1, 0, 0}, {0, -1, 0}, {-1, 1, 0}, {1, -1, 0}, {1, 1, 1}, {1, 2, 1}, {2, 1, 1}, {-1, -1, -1}, {-1, -2, -1},
	} {
		if got := Sign(of(x.lo, x.hi)); got != x.want {
			t.Error("Sign", x, got)
		}
	}
}

// P4.1
func TestWidthAndMid(t *testing.T) {
	for _, a := range append(samples(), small()...) {
		lo, hi := values(a)
		expectRat(t, Width(a), new(big.Rat).Sub(hi, lo), "Width", a)
		sum := new(big.Rat).Add(lo, hi)
		expectRat(t, Mid(a), sum.Quo(sum, big.NewRat(2, 1)), "Mid", a)
	}
	if !sameRat(Width(of(12, -6)), rational.Of(3)) || !sameRat(Mid(of(12, -6)), rational.Frac(1, 2)) {
		t.Error("a turned interval", Width(of(12, -6)), Mid(of(12, -6)))
	}
}
