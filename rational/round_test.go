package rational

import (
	"math"
	"math/big"
	"testing"

	"dspcompiler/api"
	"dspcompiler/integer"
)

// floorOf returns the greatest integer that is not greater than v.
func floorOf(v *big.Rat) *big.Int {
	// The division of math/big is Euclid's, which rounds down for a positive divisor.
	return new(big.Int).Div(v.Num(), v.Denom())
}

// P3.3
func TestFloor(t *testing.T) {
	for _, a := range samples() {
		got, e := Make(Floor(a), integer.Of(1))
		if e != api.OK || !integer.Valid(Floor(a)) {
			t.Error("Floor", a, Floor(a))
		}
		expect(t, got, new(big.Rat).SetInt(floorOf(value(a))), "Floor", a)
	}
	for _, x := range []struct{ a, b, want int }{
		{0, 1, 0}, {1, 2, 0}, {-1, 2, -1}, {7, 2, 3}, {-7, 2, -4}, {7, -2, -4}, {6, 3, 2}, {-6, 3, -2}, {-1, most, -1}, {1, most, 0},
		{least, 1, least}, {5, 0, 0},
	} {
		if got := Floor(Frac(x.a, x.b)); integer.Compare(got, integer.Of(x.want)) != 0 {
			t.Error("Floor", x, got)
		}
	}
}

// checkRounding compares the three roundings of a with those of math/big.
func checkRounding(t *testing.T, a api.Rat, bits int) {
	t.Helper()
	one := big.NewInt(1)
	scale := new(big.Rat).SetInt(new(big.Int).Lsh(one, uint(bits)))
	scaled := new(big.Rat).Mul(value(a), scale)
	least := floorOf(scaled)
	greatest := new(big.Int).Set(least)
	if !scaled.IsInt() {
		greatest.Add(greatest, one)
	}
	near := floorOf(new(big.Rat).Add(scaled, big.NewRat(1, 2)))
	for _, x := range []struct {
		name  string
		round func(api.Rat, int) (api.Rat, api.Errno)
		want  *big.Int
	}{{"Down", Down, least}, {"Up", Up, greatest}, {"Nearest", Nearest, near}} {
		got, e := x.round(a, bits)
		if e != api.OK {
			t.Error(x.name, a, bits, e)
		}
		expect(t, got, new(big.Rat).Quo(new(big.Rat).SetInt(x.want), scale), x.name, a, bits)
	}
}

// P3.3
func TestRounding(t *testing.T) {
	for _, a := range samples() {
		for _, bits := range []int{0, 1, 2, 3, 8, 31, 32, 33, 64, 95, 96, 97, 128, api.MaxBits - 1, api.MaxBits} {
			checkRounding(t, a, bits)
		}
	}
	for num := -40; num <= 40; num++ {
		for den := 1; den <= 16; den++ {
			for bits := range 5 {
				checkRounding(t, Frac(num, den), bits)
			}
		}
	}
}

// P3.3: the nearest one of two at the same distance is the greater one.
func TestRoundingOfExamples(t *testing.T) {
	for _, x := range []struct {
		a                 api.Rat
		bits              int
		down, up, nearest api.Rat
	}{
		{Frac(1, 3), 2, Frac(1, 4), Frac(1, 2), Frac(1, 4)},
		{Frac(-1, 3), 2, Frac(-1, 2), Frac(-1, 4), Frac(-1, 4)},
		{Frac(1, 2), 0, Of(0), Of(1), Of(1)},
		{Frac(-1, 2), 0, Of(-1), Of(0), Of(0)},
		{Frac(3, 2), 0, Of(1), Of(2), Of(2)},
		{Frac(-3, 2), 0, Of(-2), Of(-1), Of(-1)},
		{Frac(3, 8), 2, Frac(1, 4), Frac(1, 2), Frac(1, 2)},
		{Frac(-3, 8), 2, Frac(-1, 2), Frac(-1, 4), Frac(-1, 4)},
		{Frac(3, 8), 3, Frac(3, 8), Frac(3, 8), Frac(3, 8)},
		{Of(-5), 0, Of(-5), Of(-5), Of(-5)},
		{Of(-5), api.MaxBits, Of(-5), Of(-5), Of(-5)},
		{api.Rat{}, 7, Of(0), Of(0), Of(0)},
		{rat(true, []uint32{9}, nil), 7, Of(0), Of(0), Of(0)},
		{rat(false, []uint32{2}, []uint32{6, 0}), 2, Frac(1, 4), Frac(1, 2), Frac(1, 4)},
	} {
		down, e := Down(x.a, x.bits)
		up, f := Up(x.a, x.bits)
		nearest, g := Nearest(x.a, x.bits)
		if e != api.OK || f != api.OK || g != api.OK || !same(down, x.down) || !same(up, x.up) || !same(nearest, x.nearest) {
			t.Error("rounded", x.a, x.bits, down, up, nearest)
		}
	}
}

// P3.3
func TestBitsOutOfRange(t *testing.T) {
	for _, round := range []func(api.Rat, int) (api.Rat, api.Errno){Down, Up, Nearest} {
		for _, a := range []api.Rat{{}, Of(0), Of(3), Frac(-1, 3)} {
			for _, bits := range []int{-1, -2, api.MaxBits + 1, math.MinInt, math.MaxInt} {
				if got, e := round(a, bits); e != api.ErrArg || !isNothing(got) {
					t.Error("bits out of range", a, bits, got, e)
				}
			}
		}
	}
}

// Consequences: both ends are near, and equal exactly if the number is a multiple.
func TestBounds(t *testing.T) {
	for _, a := range samples() {
		for _, bits := range []int{0, 1, 5, 40, api.MaxBits} {
			step := rat(false, []uint32{1}, digits(new(big.Int).Lsh(big.NewInt(1), uint(bits))))
			down, _ := Down(a, bits)
			up, _ := Up(a, bits)
			if Compare(down, a) > 0 || Compare(a, up) > 0 || Compare(Sub(a, down), step) > 0 || Compare(Sub(up, a), step) > 0 {
				t.Error("not near", a, bits, down, up)
			}
			steps, _ := Div(a, step)
			if isMultiple := len(steps.Den) == 1 && steps.Den[0] == 1; same(down, up) != isMultiple {
				t.Error("equal ends", a, bits, down, up)
			}
		}
	}
}
