package nat

import (
	"math"
	"math/big"
	"slices"
	"testing"

	"dspcompiler/api"
)

// P1.3
func TestBitLen(t *testing.T) {
	for _, x := range []struct {
		a    []uint32
		want int
	}{{nil, 0}, {[]uint32{0, 0}, 0}, {[]uint32{1}, 1}, {[]uint32{2}, 2}, {[]uint32{3}, 2}, {[]uint32{most}, 32}, {[]uint32{0, 1}, 33}, {[]uint32{0, 1, 0}, 33}} {
		if got := BitLen(x.a); got != x.want {
			t.Error("BitLen", x.a, got)
		}
	}
	for _, a := range samples() {
		if got := BitLen(a); got != value(a).BitLen() {
			t.Error("BitLen", a, got)
		}
	}
}

// P1.3
func TestShift(t *testing.T) {
	for _, a := range samples() {
		for n := range 140 {
			expect(t, Shift(a, n), new(big.Int).Lsh(value(a), uint(n)), "Shift", a, n)
			expect(t, Shift(a, -n), new(big.Int).Rsh(value(a), uint(n)), "Shift", a, -n)
		}
	}
}

// P1.3: the bound holds for shifts to the left only.
func TestShiftAtItsBounds(t *testing.T) {
	three := []uint32{3}
	expect(t, Shift(three, api.MaxShift), new(big.Int).Lsh(big.NewInt(3), api.MaxShift), "Shift", three, api.MaxShift)
	for _, n := range []int{api.MaxShift + 1, math.MaxInt, -2, -32, -api.MaxShift, math.MinInt, math.MinInt + 1} {
		if got := Shift(three, n); len(got) != 0 {
			t.Error("Shift", three, n, got)
		}
	}
	long := Shift(Shift(three, api.MaxShift), 64)
	if got := Shift(long, -api.MaxShift-64); !slices.Equal(got, three) {
		t.Error("a long shift to the right", got)
	}
	if got := Shift(long, -api.MaxShift-65); !slices.Equal(got, []uint32{1}) {
		t.Error("a long shift to the right", got)
	}
	if got := Shift([]uint32{0, 0}, api.MaxShift); len(got) != 0 {
		t.Error("a shift of 0", got)
	}
}

// P1.4
func TestPow(t *testing.T) {
	for _, a := range [][]uint32{nil, {0, 0}, {1}, {2}, {10, 0}, {most}, {0, 1}, {5, 6, 7}} {
		for n := range api.MaxPower + 1 {
			p, e := Pow(a, n)
			if e != api.OK {
				t.Error("Pow", a, n, e)
			}
			expect(t, p, new(big.Int).Exp(value(a), big.NewInt(int64(n)), nil), "Pow", a, n)
		}
	}
}

// P1.4
func TestExponentsOutOfRange(t *testing.T) {
	for _, a := range [][]uint32{nil, {0}, {1}, {5, 6}} {
		for _, n := range []int{-1, api.MaxPower + 1, math.MinInt, math.MaxInt} {
			if p, e := Pow(a, n); e != api.ErrArg || len(p) != 0 {
				t.Error("Pow", a, n, p, e)
			}
		}
		for _, n := range []int{0, -1, api.MaxPower + 1, math.MinInt, math.MaxInt} {
			if r, e := Root(a, n); e != api.ErrArg || len(r) != 0 {
				t.Error("Root", a, n, r, e)
			}
		}
	}
}

// checkRoot compares the power of the root, and that of the next number, with a.
func checkRoot(t *testing.T, a []uint32, n int) {
	t.Helper()
	r, e := Root(a, n)
	if e != api.OK || !Normal(r) {
		t.Error("Root", a, n, r, e)
	}
	exponent := big.NewInt(int64(n))
	root := value(r)
	if new(big.Int).Exp(root, exponent, nil).Cmp(value(a)) > 0 {
		t.Error("the root is too great", a, n, r)
	}
	if new(big.Int).Exp(root.Add(root, big.NewInt(1)), exponent, nil).Cmp(value(a)) <= 0 {
		t.Error("the root is too small", a, n, r)
	}
}

// P1.4
func TestRoot(t *testing.T) {
	for _, a := range samples() {
		for n := 1; n <= api.MaxPower; n++ {
			checkRoot(t, a, n)
		}
	}
	for a := range uint32(300) {
		for n := 1; n <= 9; n++ {
			checkRoot(t, []uint32{a}, n)
		}
	}
	if r, e := Root([]uint32{8}, 2); e != api.OK || !slices.Equal(r, []uint32{2}) {
		t.Error("the document's root", r, e)
	}
}

// P1.4
func TestRootNearPowers(t *testing.T) {
	one := []uint32{1}
	for _, base := range [][]uint32{{2}, {3}, {10}, {most}, {0, 1}, {1, 1}, {3, 2, 1}, {most, most, most}} {
		for _, n := range []int{2, 3, 4, 7, 31, 63, 64} {
			p, _ := Pow(base, n)
			checkRoot(t, Sub(p, one), n)
			checkRoot(t, p, n)
			checkRoot(t, Add(p, one), n)
		}
	}
}

// P1.4: the root is longer than the greatest shift.
func TestRootOfLongNumber(t *testing.T) {
	root := Shift(Shift([]uint32{5, 6, 7}, api.MaxShift), api.MaxShift)
	r, e := Root(Add(Mul(root, root), []uint32{9}), 2)
	if e != api.OK || !slices.Equal(r, root) {
		t.Error("a long root", e, BitLen(r))
	}
}
