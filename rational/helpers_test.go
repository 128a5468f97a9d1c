package rational

import (
	"math/big"
	"reflect"
	"slices"
	"testing"

	"dspcompiler/api"
	"dspcompiler/integer"
)

const (
	most  = 1<<63 - 1
	least = -1 << 63
	digit = 1<<32 - 1
)

// natural returns the value of a list of digits by the arithmetic of math/big, which the tests compare with.
func natural(a []uint32) *big.Int {
	v := new(big.Int)
	for _, x := range slices.Backward(a) {
		v.Lsh(v, 32)
		v.Or(v, new(big.Int).SetUint64(uint64(x)))
	}
	return v
}

// digits returns the digits of the size of a number.
func digits(n *big.Int) []uint32 {
	rest := new(big.Int).Abs(n)
	var list []uint32
	for rest.Sign() > 0 {
		list = append(list, uint32(new(big.Int).And(rest, big.NewInt(digit)).Uint64()))
		rest.Rsh(rest, 32)
	}
	return list
}

// value returns the value of a number, which is 0 if its denominator is.
func value(a api.Rat) *big.Rat {
	num, den := natural(a.Num.Mag), natural(a.Den)
	if den.Sign() == 0 {
		return new(big.Rat)
	}
	if a.Num.Neg {
		num.Neg(num)
	}
	return new(big.Rat).SetFrac(num, den)
}

// isNormal reports whether a list of digits has no leading zeros.
func isNormal(a []uint32) bool {
	return len(a) == 0 || a[len(a)-1] != 0
}

// canonical is written from the definition, without Valid, so that a wrong Valid does not hide a wrong result.
func canonical(a api.Rat) bool {
	if !isNormal(a.Num.Mag) || !isNormal(a.Den) || len(a.Den) == 0 {
		return false
	}
	if len(a.Num.Mag) == 0 {
		return !a.Num.Neg && len(a.Den) == 1 && a.Den[0] == 1
	}
	divisor := new(big.Int).GCD(nil, nil, natural(a.Num.Mag), natural(a.Den))
	return divisor.Cmp(big.NewInt(1)) == 0
}

// expect checks that a result is valid and has the value that is wanted.
func expect(t *testing.T, got api.Rat, want *big.Rat, call string, arguments ...any) {
	t.Helper()
	if !canonical(got) || value(got).Cmp(want) != 0 {
		t.Errorf("%s%v is %v, not %v", call, arguments, got, want)
	}
}

// isNothing reports whether a result is the zero value, as it is together with an error.
func isNothing(a api.Rat) bool {
	return !a.Num.Neg && len(a.Num.Mag) == 0 && len(a.Den) == 0
}

// same compares two valid numbers as plain data.
func same(a, b api.Rat) bool {
	return a.Num.Neg == b.Num.Neg && slices.Equal(a.Num.Mag, b.Num.Mag) && slices.Equal(a.Den, b.Den)
}

// rat returns a number as it stands.
func rat(neg bool, num, den []uint32) api.Rat {
	return api.Rat{Num: api.Int{Neg: neg, Mag: num}, Den: den}
}

// samples are numbers in all forms, with both signs: zeros with and without a denominator, not normal, not in lowest terms, with powers of 2 below, short and long.
func samples() []api.Rat {
	both := []uint32{6, 3}
	pairs := [][2][]uint32{
		{nil, nil}, {nil, {0, 0}}, {{5}, nil}, {{5}, {0}}, {{0, 0}, {0}}, {{0}, {7}}, {nil, {1}}, {nil, {6, 0}},
		{{1}, {1}}, {{1}, {2}}, {{3, 0}, {2}}, {{2}, {4}}, {{6}, {4, 0}}, {{1}, {3}}, {{2}, {3, 0, 0}}, {{7}, {3}}, {{4}, {6}},
		{{12, 0}, {18}}, {{digit}, {1}}, {{digit}, {digit}}, {{1}, {digit}}, {{0, 1 << 31}, {1}}, {{0, 1}, {1}}, {{1}, {0, 1}},
		{{0, 1}, {0, 0, 1}}, {{0, 6}, {0, 0, 4}}, {{digit, digit}, {0, 0, 1 << 31}}, {{0, 0, 5}, {0, 1 << 31}}, {{10}, {0, 15}},
		{both, both}, {{6, 3}, {0, 2, 1}}, {{digit, digit, digit}, {digit, 0, digit}}, {{0, 6, 0, 3}, {0, 9, 0, 0}},
		{{1, 2, 3, 4, 5, 6, 7}, {7, 6, 5, 4, 3, 2, 1}}, {{digit, 0, digit, 0, digit, 0}, {3, 0, 3, 0}}, {{5, 1}, {1, 2, 3, 4, 5, 6, 7}},
	}
	var numbers []api.Rat
	for _, p := range pairs {
		numbers = append(numbers, rat(false, p[0], p[1]), rat(true, p[0], p[1]))
	}
	return numbers
}

// allCalls returns the results of all calls with a and b that return numbers.
func allCalls(a, b api.Rat) []api.Rat {
	made, _ := Make(a.Num, b.Num)
	quotient, _ := Div(a, b)
	power, _ := Pow(a, 1)
	one, _ := Pow(a, 0)
	cube, _ := Pow(a, 3)
	down, _ := Down(a, 5)
	up, _ := Up(a, 5)
	nearest, _ := Nearest(a, 5)
	fine, _ := Down(a, api.MaxBits)
	parsed, _ := Parse(Format(a))
	Valid(a)
	Sign(a)
	Compare(a, b)
	return []api.Rat{
		Trim(a), Of(7), Of(0), Frac(-7, 2), Frac(1, 0), made, Neg(a), Abs(a), Add(a, b), Add(b, a), Sub(a, b), Sub(b, a), Mul(a, b),
		quotient, power, one, cube, down, up, nearest, fine, parsed, {Num: Floor(a)},
	}
}

// padded returns a copy of a, and the memory of its digits with one more behind their end.
func padded(a api.Rat) (api.Rat, [2][]uint32) {
	memory := [2][]uint32{append(slices.Clone(a.Num.Mag), 77), append(slices.Clone(a.Den), 77)}
	return rat(a.Num.Neg, memory[0][:len(a.Num.Mag)], memory[1][:len(a.Den)]), memory
}

// R3: arguments stay as they are, also behind their ends, and no list of digits shares memory with them or with another list.
func TestMemory(t *testing.T) {
	for _, a := range samples() {
		for _, b := range append(samples()[:24], a) {
			x, memoryX := padded(a)
			y, memoryY := padded(b)
			var lists, wanted [][]uint32
			for _, number := range allCalls(x, y) {
				lists = append(lists, number.Num.Mag, number.Den)
			}
			for _, list := range lists {
				wanted = append(wanted, slices.Clone(list))
			}
			for i, list := range lists {
				if !slices.Equal(list, wanted[i]) {
					t.Fatal("results share memory", a, b, i)
				}
				clear(list[:cap(list)])
			}
			if _, before := padded(a); !reflect.DeepEqual(memoryX, before) {
				t.Fatal("the first argument is modified", a, x)
			}
			if _, before := padded(b); !reflect.DeepEqual(memoryY, before) {
				t.Fatal("the second argument is modified", b, y)
			}
			for i, number := range allCalls(x, y) {
				if !slices.Equal(number.Num.Mag, wanted[2*i]) || !slices.Equal(number.Den, wanted[2*i+1]) {
					t.Fatal("the second result differs", a, b, i)
				}
			}
		}
	}
}

// R3: both lists of one argument may be the same memory, and those of the result are not.
func TestSharedArgument(t *testing.T) {
	digits := []uint32{6, 3}
	a := rat(false, digits, digits)
	for _, got := range []api.Rat{Trim(a), Abs(a), Mul(a, a)} {
		if !same(got, Of(1)) {
			t.Fatal("a number divided by itself", got)
		}
		got.Den[0] = 9
		if got.Num.Mag[0] != 1 || digits[0] != 6 {
			t.Fatal("the numerator and the denominator share memory")
		}
	}
}

// R4: equal values are equal results, also where one list of digits would be nil and the other one empty.
func TestPlainData(t *testing.T) {
	zero, half := Of(0), Frac(1, 2)
	for _, got := range []api.Rat{
		Trim(api.Rat{}), Trim(rat(true, []uint32{0}, []uint32{5})), Sub(half, half), Neg(zero), Mul(zero, half), Frac(0, -7), Frac(7, 0),
	} {
		if !reflect.DeepEqual(got, zero) {
			t.Errorf("not the 0 of Of: %#v", got)
		}
	}
	for _, got := range []api.Rat{Trim(rat(false, []uint32{2, 0}, []uint32{4, 0})), Sub(Of(1), half), Neg(Neg(half)), Frac(-3, -6)} {
		if !reflect.DeepEqual(got, half) {
			t.Errorf("not the 1/2 of Frac: %#v", got)
		}
	}
	if !reflect.DeepEqual(Floor(api.Rat{}), integer.Of(0)) {
		t.Error("Floor of 0")
	}
}
