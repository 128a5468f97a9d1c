package interval

import (
	"math/big"
	"testing"

	"dspcompiler/api"
	"dspcompiler/rational"
)

// operation is an operation of math/big, which writes the result into its first argument.
type operation func(z, x, y *big.Rat) *big.Rat

// extremes returns the least and the greatest result for the ends of a and of b. The four operations are monotonic in each argument (a quotient on each side of 0), so no other numbers have lesser or greater ones.
func extremes(a, b api.Interval, do operation) (lo, hi *big.Rat) {
	for _, x := range []api.Rat{a.Lo, a.Hi} {
		for _, y := range []api.Rat{b.Lo, b.Hi} {
			v := do(new(big.Rat), value(x), value(y))
			if lo == nil || v.Cmp(lo) < 0 {
				lo = v
			}
			if hi == nil || v.Cmp(hi) > 0 {
				hi = v
			}
		}
	}
	return lo, hi
}

// squares returns the least and the greatest square of a number of a.
func squares(a api.Interval) (lo, hi *big.Rat) {
	lo, hi = values(a)
	isMixed := lo.Sign() <= 0 && hi.Sign() >= 0
	lo.Mul(lo, lo)
	hi.Mul(hi, hi)
	if lo.Cmp(hi) > 0 {
		lo, hi = hi, lo
	}
	if isMixed {
		lo = new(big.Rat)
	}
	return lo, hi
}

// checkArithmetic compares the results for a and b with those of math/big.
func checkArithmetic(t *testing.T, a, b api.Interval) {
	t.Helper()
	lo, hi := extremes(a, b, (*big.Rat).Add)
	expect(t, Add(a, b), lo, hi, "Add", a, b)
	lo, hi = extremes(a, b, (*big.Rat).Sub)
	expect(t, Sub(a, b), lo, hi, "Sub", a, b)
	lo, hi = extremes(a, b, (*big.Rat).Mul)
	expect(t, Mul(a, b), lo, hi, "Mul", a, b)
	got, e := Div(a, b)
	if least, greatest := values(b); least.Sign() <= 0 && greatest.Sign() >= 0 {
		if e != api.ErrZero || !isNothing(got) {
			t.Error("Div by an interval that contains 0", a, b, got, e)
		}
		return
	}
	if e != api.OK {
		t.Error("Div", a, b, e)
	}
	lo, hi = extremes(a, b, (*big.Rat).Quo)
	expect(t, got, lo, hi, "Div", a, b)
}

// P4.2
func TestArithmetic(t *testing.T) {
	for i, a := range samples() {
		for _, b := range append(few(i%11, 11), a) {
			checkArithmetic(t, a, b)
		}
	}
	for _, a := range small() {
		for _, b := range small() {
			checkArithmetic(t, a, b)
		}
	}
}

// P4.2
func TestSquare(t *testing.T) {
	for _, a := range append(samples(), small()...) {
		lo, hi := squares(a)
		expect(t, Square(a), lo, hi, "Square", a)
	}
}

// P4.2: the document's examples, and the cases of signs.
func TestArithmeticOfExamples(t *testing.T) {
	for _, x := range []struct {
		name      string
		got, want api.Interval
	}{
		{"Add", Add(of(-6, 12), of(18, 24)), of(12, 36)},
		{"Add of turned ones", Add(of(12, -6), of(24, 18)), of(12, 36)},
		{"Sub", Sub(of(-6, 12), of(18, 24)), of(-30, -6)},
		{"Sub of itself", Sub(of(-6, 12), of(-6, 12)), of(-18, 18)},
		{"Mul", Mul(of(-6, 12), of(18, 24)), of(-24, 48)},
		{"Mul of mixed signs", Mul(of(-6, 12), of(-18, 6)), of(-36, 18)},
		{"Mul of negative ones", Mul(of(-12, -6), of(-18, -6)), of(6, 36)},
		{"Mul by 0", Mul(of(-12, 6), of(0, 0)), of(0, 0)},
		{"Mul of itself", Mul(of(-6, 12), of(-6, 12)), of(-12, 24)},
		{"Square", Square(of(-6, 12)), of(0, 24)},
		{"Square of a turned one", Square(of(12, -6)), of(0, 24)},
		{"Square, mostly negative", Square(of(-12, 6)), of(0, 24)},
		{"Square of a negative one", Square(of(-12, -6)), of(6, 24)},
		{"Square from 0 on", Square(of(0, 12)), of(0, 24)},
		{"Square up to 0", Square(of(-12, 0)), of(0, 24)},
	} {
		if !same(x.got, x.want) {
			t.Error(x.name, x.got)
		}
	}
}

// P4.2
func TestDiv(t *testing.T) {
	for _, x := range []struct{ a, b, want api.Interval }{
		{of(6, 12), of(-24, -12), Make(rational.Of(-1), rational.Frac(-1, 4))},
		{of(6, 12), of(24, 12), Make(rational.Frac(1, 4), rational.Of(1))},
		{of(-6, 12), of(3, 6), of(-12, 24)},
		{of(-6, 12), of(-6, -3), of(-24, 12)},
		{of(0, 0), of(3, 6), of(0, 0)},
		{api.Interval{}, of(-6, -3), of(0, 0)},
	} {
		if got, e := Div(x.a, x.b); e != api.OK || !same(got, x.want) {
			t.Error("Div", x, got, e)
		}
	}
	for _, b := range []api.Interval{
		of(-6, 6), of(6, -6), of(0, 1), of(1, 0), of(-1, 0), of(0, -1), of(0, 0), {}, {Lo: rational.Of(1)}, {Hi: rational.Of(-1)},
		{Lo: rational.Of(1), Hi: rat(true, []uint32{3}, nil)}, {Lo: rational.Of(1), Hi: rat(false, []uint32{0}, []uint32{5})},
	} {
		for _, a := range []api.Interval{of(6, 12), of(-6, 6), of(0, 0), {}} {
			if got, e := Div(a, b); e != api.ErrZero || !isNothing(got) {
				t.Error("Div by an interval that contains 0", a, b, got, e)
			}
		}
	}
}

// points returns numbers of a valid interval, with its ends.
func points(a api.Interval) []api.Rat {
	list := make([]api.Rat, 5)
	for i := range list {
		list[i] = rational.Add(a.Lo, rational.Mul(Width(a), rational.Frac(i, len(list)-1)))
	}
	return list
}

// Consequences: whatever numbers are chosen, their sum, difference, product and quotient are in the results.
func TestChosenNumbers(t *testing.T) {
	for _, a := range few(3, 9) {
		for _, b := range few(5, 13) {
			quotients, e := Div(a, b)
			for _, x := range points(Trim(a)) {
				for _, y := range points(Trim(b)) {
					if !Contains(Add(a, b), rational.Add(x, y)) || !Contains(Sub(a, b), rational.Sub(x, y)) || !Contains(Mul(a, b), rational.Mul(x, y)) {
						t.Error("not in the result", a, b, x, y)
					}
					if quotient, _ := rational.Div(x, y); e == api.OK && !Contains(quotients, quotient) {
						t.Error("not in the quotients", a, b, x, y)
					}
				}
			}
		}
		for _, x := range points(Trim(a)) {
			if !Contains(Square(a), rational.Mul(x, x)) || !Contains(Mul(a, a), rational.Mul(x, x)) {
				t.Error("not in the squares", a, x)
			}
		}
	}
}

// Consequences: larger intervals have larger results.
func TestInclusion(t *testing.T) {
	for i, a := range few(1, 17) {
		for _, b := range few(2, 17) {
			larger := Hull(a, few(i%29, 29)[0])
			if !Inside(Add(a, b), Add(larger, b)) || !Inside(Sub(b, a), Sub(b, larger)) || !Inside(Mul(a, b), Mul(larger, b)) || !Inside(Square(a), Square(larger)) {
				t.Error("not larger", a, b, larger)
			}
			all, e := Div(b, larger)
			if quotients, _ := Div(b, a); e == api.OK && !Inside(quotients, all) {
				t.Error("not larger quotients", a, b, larger)
			}
		}
	}
}
