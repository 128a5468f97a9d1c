package interval

import (
	"math/big"
	"reflect"
	"slices"
	"testing"

	"dspcompiler/api"
	"dspcompiler/rational"
)

const digit = 1<<32 - 1

// natural returns the value of a list of digits by the arithmetic of math/big, which the tests compare with.
func natural(a []uint32) *big.Int {
	v := new(big.Int)
	for _, x := range slices.Backward(a) {
		v.Lsh(v, 32)
		v.Or(v, new(big.Int).SetUint64(uint64(x)))
	}
	return v
}

// value returns the value of a number, which is 0 if its denominator is.
func value(a api.Rat) *big.Rat {
	num, den := natural(a.Num.Mag), natural(a.Den)
	if den.Sign() == 0 {
		return new(big.Rat)
	}
	if a.Num.Neg {
		num.Neg(num)
	}
	return new(big.Rat).SetFrac(num, den)
}

// values returns the lesser and the greater end of an interval.
func values(a api.Interval) (lo, hi *big.Rat) {
	lo, hi = value(a.Lo), value(a.Hi)
	if lo.Cmp(hi) > 0 {
		return hi, lo
	}
	return lo, hi
}

// isNormal reports whether a list of digits has no leading zeros.
func isNormal(a []uint32) bool {
	return len(a) == 0 || a[len(a)-1] != 0
}

// canonicalRat is written from the definition, without rational.Valid.
func canonicalRat(a api.Rat) bool {
	if !isNormal(a.Num.Mag) || !isNormal(a.Den) || len(a.Den) == 0 {
		return false
	}
	if len(a.Num.Mag) == 0 {
		return !a.Num.Neg && len(a.Den) == 1 && a.Den[0] == 1
	}
	divisor := new(big.Int).GCD(nil, nil, natural(a.Num.Mag), natural(a.Den))
	return divisor.Cmp(big.NewInt(1)) == 0
}

// canonical is written from the definition, without Valid, so that a wrong Valid does not hide a wrong result.
func canonical(a api.Interval) bool {
	return canonicalRat(a.Lo) && canonicalRat(a.Hi) && value(a.Lo).Cmp(value(a.Hi)) <= 0
}

// expect checks that a result is valid and has the ends that are wanted.
func expect(t *testing.T, got api.Interval, lo, hi *big.Rat, call string, arguments ...any) {
	t.Helper()
	if !canonical(got) || value(got.Lo).Cmp(lo) != 0 || value(got.Hi).Cmp(hi) != 0 {
		t.Errorf("%s%v is %v, not from %v to %v", call, arguments, got, lo, hi)
	}
}

// expectRat checks that a result is valid and has the value that is wanted.
func expectRat(t *testing.T, got api.Rat, want *big.Rat, call string, arguments ...any) {
	t.Helper()
	if !canonicalRat(got) || value(got).Cmp(want) != 0 {
		t.Errorf("%s%v is %v, not %v", call, arguments, got, want)
	}
}

// isNothing reports whether a result is the zero value, as it is together with an error or with false.
func isNothing(a api.Interval) bool {
	for _, x := range []api.Rat{a.Lo, a.Hi} {
		if x.Num.Neg || len(x.Num.Mag) > 0 || len(x.Den) > 0 {
			return false
		}
	}
	return true
}

// sameRat compares two valid numbers as plain data.
func sameRat(a, b api.Rat) bool {
	return a.Num.Neg == b.Num.Neg && slices.Equal(a.Num.Mag, b.Num.Mag) && slices.Equal(a.Den, b.Den)
}

// same compares two valid intervals as plain data.
func same(a, b api.Interval) bool {
	return sameRat(a.Lo, b.Lo) && sameRat(a.Hi, b.Hi)
}

// rat returns a number as it stands.
func rat(neg bool, num, den []uint32) api.Rat {
	return api.Rat{Num: api.Int{Neg: neg, Mag: num}, Den: den}
}

// of returns the interval with the ends lo / 6 and hi / 6, as they stand.
func of(lo, hi int) api.Interval {
	return api.Interval{Lo: rational.Frac(lo, 6), Hi: rational.Frac(hi, 6)}
}

// numbers are numbers in all forms, with both signs: zeros with and without a denominator, not normal, not in lowest terms, equal ones in different forms, short and long.
func numbers() []api.Rat {
	return []api.Rat{
		{}, rat(true, []uint32{5}, []uint32{0}), rat(true, []uint32{0}, []uint32{7}), rat(false, nil, []uint32{1}),
		rat(false, []uint32{1}, []uint32{1}), rat(true, []uint32{3, 0}, []uint32{3}), rat(false, []uint32{2}, []uint32{4, 0}),
		rat(false, []uint32{1}, []uint32{2}), rat(true, []uint32{1}, []uint32{3}), rat(true, []uint32{4}, []uint32{6, 0}),
		rat(false, []uint32{7}, []uint32{3}), rat(true, []uint32{0, 6}, []uint32{0, 4}), rat(false, []uint32{1}, []uint32{0, 1}),
		rat(true, []uint32{1, 2, 3}, []uint32{3, 2, 1}), rat(false, []uint32{digit, 0, digit}, []uint32{digit, digit}),
		rat(true, []uint32{0, 0, 5}, []uint32{10}),
	}
}

// samples are all intervals between two of the numbers, in both directions: points, with 0 inside, at an end and outside.
func samples() []api.Interval {
	var list []api.Interval
	for _, a := range numbers() {
		for _, b := range numbers() {
			list = append(list, api.Interval{Lo: a, Hi: b})
		}
	}
	return list
}

// few returns every step-th sample from the start-th on.
func few(start, step int) []api.Interval {
	var list []api.Interval
	all := samples()
	for i := start; i < len(all); i += step {
		list = append(list, all[i])
	}
	return list
}

// small are all intervals with ends that are multiples of 1/6 from -1/2 to 1/2, in both directions.
func small() []api.Interval {
	var list []api.Interval
	for lo := -3; lo <= 3; lo++ {
		for hi := -3; hi <= 3; hi++ {
			list = append(list, of(lo, hi))
		}
	}
	return list
}

// allCalls returns the results of all calls with a, b and x that return intervals or numbers, those as intervals with one end.
func allCalls(a, b api.Interval, x api.Rat) []api.Interval {
	quotient, _ := Div(a, b)
	other, _ := Div(b, a)
	meet, _ := Meet(a, b)
	coarse, _ := Round(a, 0)
	fine, _ := Round(a, api.MaxBits)
	Valid(a)
	Contains(a, x)
	Inside(a, b)
	Sign(a)
	return []api.Interval{
		Trim(a), Make(a.Lo, b.Hi), Make(x, x), Make(a.Lo, x), Add(a, b), Sub(a, b), Sub(b, a), Mul(a, b), Mul(b, a), Mul(a, a), Square(a),
		quotient, other, meet, Hull(a, b), Hull(b, a), coarse, fine, {Lo: Width(a), Hi: Mid(a)},
	}
}

// lists returns the four lists of digits of an interval.
func lists(a api.Interval) [][]uint32 {
	return [][]uint32{a.Lo.Num.Mag, a.Lo.Den, a.Hi.Num.Mag, a.Hi.Den}
}

// padded returns a copy of a, and the memory of its digits with one more behind their end.
func padded(a api.Interval) (api.Interval, [][]uint32) {
	var memory, digits [][]uint32
	for _, list := range lists(a) {
		longer := append(slices.Clone(list), 77)
		memory = append(memory, longer)
		digits = append(digits, longer[:len(list)])
	}
	return api.Interval{Lo: rat(a.Lo.Num.Neg, digits[0], digits[1]), Hi: rat(a.Hi.Num.Neg, digits[2], digits[3])}, memory
}

// checkMemory clears all digits of the results of all calls one by one, which must change no other result and no argument.
func checkMemory(t *testing.T, a, b api.Interval) {
	t.Helper()
	x, memoryX := padded(a)
	y, memoryY := padded(b)
	var digits, wanted [][]uint32
	for _, result := range allCalls(x, y, y.Lo) {
		digits = append(digits, lists(result)...)
	}
	for _, list := range digits {
		wanted = append(wanted, slices.Clone(list))
	}
	for i, list := range digits {
		if !slices.Equal(list, wanted[i]) {
			t.Fatal("results share memory", a, b, i)
		}
		clear(list[:cap(list)])
	}
	if _, before := padded(a); !reflect.DeepEqual(memoryX, before) {
		t.Fatal("the first argument is modified", a, x)
	}
	if _, before := padded(b); !reflect.DeepEqual(memoryY, before) {
		t.Fatal("the second argument is modified", b, y)
	}
	if x.Lo.Num.Neg != a.Lo.Num.Neg || x.Hi.Num.Neg != a.Hi.Num.Neg {
		t.Fatal("a sign is modified", a, x)
	}
	for i, result := range allCalls(x, y, y.Lo) {
		for j, list := range lists(result) {
			if !slices.Equal(list, wanted[4*i+j]) {
				t.Fatal("the second result differs", a, b, i)
			}
		}
	}
}

// R3: arguments stay as they are, also behind their ends, and no list of digits of a result shares memory with them or with another list.
func TestMemory(t *testing.T) {
	for i, a := range samples() {
		for _, b := range append(few(i%23, 23), a) {
			checkMemory(t, a, b)
		}
	}
	// Points and intervals with an end in common have results with equal ends.
	for _, a := range small() {
		for _, b := range []api.Interval{of(0, 0), of(6, 6), of(-3, 3), of(-2, -2), of(3, 1), a} {
			checkMemory(t, a, b)
		}
	}
}

// R3: all lists of the arguments may be the same memory, and those of the results are not.
func TestSharedArgument(t *testing.T) {
	digits := []uint32{6, 3}
	one := rat(false, digits, digits)
	point := api.Interval{Lo: one, Hi: one}
	for i, got := range allCalls(point, point, one) {
		for j, list := range lists(got) {
			others := slices.Concat(lists(got)[:j], lists(got)[j+1:])
			before := make([][]uint32, len(others))
			for k, other := range others {
				before[k] = slices.Clone(other)
			}
			clear(list)
			if !reflect.DeepEqual(others, before) && len(list) > 0 {
				t.Fatal("the ends share memory", i, j)
			}
		}
	}
	if !slices.Equal(digits, []uint32{6, 3}) {
		t.Error("the argument is modified", digits)
	}
}

// R4: equal values are equal results, also where one list of digits would be nil and the other one empty.
func TestPlainData(t *testing.T) {
	zero, half := Make(rational.Of(0), rational.Of(0)), Make(rational.Of(0), rational.Frac(1, 2))
	meet, _ := Meet(of(0, 3), of(-3, 0))
	round, _ := Round(of(1, 2), 1)
	quotient, _ := Div(of(0, 3), of(6, 6))
	for _, x := range []struct{ got, want api.Interval }{
		{Trim(api.Interval{}), zero}, {Trim(api.Interval{Hi: rat(true, []uint32{0}, []uint32{5, 0})}), zero}, {Sub(of(3, 3), of(3, 3)), zero},
		{Mul(of(0, 0), of(-3, 3)), zero}, {Square(of(0, 0)), zero}, {meet, zero},
		{Trim(of(3, 0)), half}, {Add(of(-3, 0), of(3, 3)), half}, {round, half}, {quotient, half}, {Hull(api.Interval{}, of(3, 3)), half},
	} {
		if !reflect.DeepEqual(x.got, x.want) {
			t.Errorf("%#v is not %#v", x.got, x.want)
		}
	}
}
