package rational

import (
	"math/big"
	"testing"

	"dspcompiler/api"
	"dspcompiler/integer"
	"dspcompiler/nat"
)

// P3.1
func TestValidAndTrim(t *testing.T) {
	for _, x := range []struct {
		a     api.Rat
		valid bool
		trim  api.Rat
	}{
		{api.Rat{}, false, rat(false, nil, []uint32{1})},
		{rat(false, nil, []uint32{1}), true, rat(false, nil, []uint32{1})},
		{rat(false, []uint32{}, []uint32{1}), true, rat(false, nil, []uint32{1})},
		{rat(true, nil, []uint32{1}), false, rat(false, nil, []uint32{1})},
		{rat(false, nil, []uint32{2}), false, rat(false, nil, []uint32{1})},
		{rat(false, []uint32{0}, []uint32{1}), false, rat(false, nil, []uint32{1})},
		{rat(false, []uint32{1}, nil), false, rat(false, nil, []uint32{1})},
		{rat(true, []uint32{1}, nil), false, rat(false, nil, []uint32{1})},
		{rat(false, []uint32{1}, []uint32{0}), false, rat(false, nil, []uint32{1})},
		{rat(true, []uint32{7}, []uint32{0, 0}), false, rat(false, nil, []uint32{1})},
		{rat(false, []uint32{1}, []uint32{1}), true, rat(false, []uint32{1}, []uint32{1})},
		{rat(false, []uint32{1, 0}, []uint32{2}), false, rat(false, []uint32{1}, []uint32{2})},
		{rat(false, []uint32{1}, []uint32{2, 0}), false, rat(false, []uint32{1}, []uint32{2})},
		{rat(true, []uint32{2}, []uint32{4}), false, rat(true, []uint32{1}, []uint32{2})},
		{rat(true, []uint32{6}, []uint32{4, 0}), false, rat(true, []uint32{3}, []uint32{2})},
		{rat(true, []uint32{3}, []uint32{2}), true, rat(true, []uint32{3}, []uint32{2})},
		{rat(false, []uint32{15}, []uint32{35}), false, rat(false, []uint32{3}, []uint32{7})},
		{rat(false, []uint32{0, 1}, []uint32{0, 2}), false, rat(false, []uint32{1}, []uint32{2})},
		{rat(false, []uint32{3}, []uint32{0, 2}), true, rat(false, []uint32{3}, []uint32{0, 2})},
	} {
		if Valid(x.a) != x.valid {
			t.Error("Valid", x.a)
		}
		if got := Trim(x.a); !same(got, x.trim) {
			t.Error("Trim", x.a, got)
		}
	}
	for _, a := range samples() {
		if Valid(a) != canonical(a) {
			t.Error("Valid", a)
		}
		expect(t, Trim(a), value(a), "Trim", a)
	}
}

// P3.1
func TestOfAndFrac(t *testing.T) {
	numbers := []int{0, 1, -1, 2, -2, 3, 4, -6, 10, digit, -digit, digit + 1, -digit - 1, 1 << 62, most, most - 1, least, least + 1}
	for _, a := range numbers {
		expect(t, Of(a), big.NewRat(int64(a), 1), "Of", a)
		for _, b := range numbers {
			want := new(big.Rat)
			if b != 0 {
				want.SetFrac64(int64(a), int64(b))
			}
			expect(t, Frac(a, b), want, "Frac", a, b)
		}
	}
	if got := Frac(6, -4); !same(got, rat(true, []uint32{3}, []uint32{2})) {
		t.Error("the document's fraction", got)
	}
}

// P3.1
func TestMake(t *testing.T) {
	for _, a := range samples() {
		for _, b := range samples() {
			num, den := natural(a.Num.Mag), natural(b.Num.Mag)
			if a.Num.Neg != b.Num.Neg {
				num.Neg(num)
			}
			got, e := Make(a.Num, b.Num)
			if den.Sign() == 0 {
				if e != api.ErrZero || !isNothing(got) {
					t.Error("Make with the denominator 0", a.Num, b.Num, got, e)
				}
				continue
			}
			if e != api.OK {
				t.Error("Make", a.Num, b.Num, e)
			}
			expect(t, got, new(big.Rat).SetFrac(num, den), "Make", a.Num, b.Num)
		}
	}
	for _, num := range []api.Int{integer.Of(1), integer.Of(0), {Neg: true}} {
		for _, den := range []api.Int{{}, {Neg: true}, {Mag: []uint32{0, 0}}, {Neg: true, Mag: []uint32{0}}} {
			if got, e := Make(num, den); e != api.ErrZero || !isNothing(got) {
				t.Error("Make with the denominator 0", num, den, got, e)
			}
		}
	}
}

// P3.1: common powers of 2, with other common divisors and without, up to some that are longer than the greatest shift.
func TestCommonDivisors(t *testing.T) {
	for _, up := range []int{0, 1, 31, 32, 33, 64, 100, api.MaxShift, api.MaxShift + 65} {
		for _, down := range []int{0, 1, 5, 32, 40, 96, api.MaxShift, api.MaxShift + 33} {
			for _, x := range [][2]int64{{1, 1}, {3, 1}, {-5, 1}, {1, 3}, {6, 9}, {-35, 21}} {
				num := new(big.Int).Lsh(big.NewInt(x[0]), uint(up))
				den := new(big.Int).Lsh(big.NewInt(x[1]), uint(down))
				a := rat(x[0] < 0, digits(num), digits(den))
				if got := Trim(a); !canonical(got) || value(got).Cmp(new(big.Rat).SetFrac(num, den)) != 0 {
					t.Error("Trim of", x, up, down)
				}
			}
		}
	}
}

// P3.1: neighbours in the sequence of Fibonacci have no common divisor, which takes Euclid's algorithm longest to see.
func TestLongCommonDivisor(t *testing.T) {
	x, y := []uint32{1}, []uint32{1}
	for range 300 {
		x, y = y, nat.Add(x, y)
	}
	divisor, _ := nat.Pow([]uint32{21}, 40)
	want := rat(true, x, y)
	if got := Trim(rat(true, nat.Mul(x, divisor), nat.Mul(y, divisor))); !same(got, want) || !Valid(want) {
		t.Error("Trim of a long number", got)
	}
}
