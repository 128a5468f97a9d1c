package integer

import (
	"math/big"
	"reflect"
	"slices"
	"testing"

	"dspcompiler/api"
)

const (
	most  = 1<<63 - 1
	least = -1 << 63
	digit = 1<<32 - 1
)

// value returns the value of an integer by the arithmetic of math/big, which the tests compare with.
func value(a api.Int) *big.Int {
	v := new(big.Int)
	for _, x := range slices.Backward(a.Mag) {
		v.Lsh(v, 32)
		v.Or(v, new(big.Int).SetUint64(uint64(x)))
	}
	if a.Neg {
		v.Neg(v)
	}
	return v
}

// canonical is written from the definition, without Valid, so that a wrong Valid does not hide a wrong result.
func canonical(a api.Int) bool {
	if len(a.Mag) == 0 {
		return !a.Neg
	}
	return a.Mag[len(a.Mag)-1] != 0
}

// expect checks that a result is valid and has the value that is wanted.
func expect(t *testing.T, got api.Int, want *big.Int, call string, arguments ...any) {
	t.Helper()
	if !canonical(got) || value(got).Cmp(want) != 0 {
		t.Errorf("%s%v is %v, not %v", call, arguments, got, want)
	}
}

// isNothing reports whether a result is the zero value, as it is together with an error.
func isNothing(a api.Int) bool {
	return !a.Neg && len(a.Mag) == 0
}

// same compares two integers as plain data.
func same(a, b api.Int) bool {
	return reflect.DeepEqual(a, b) || isNothing(a) && isNothing(b)
}

// samples are integers of all sorts, with both signs: zeros, not normal, short and long, and those beside the ends of int.
func samples() []api.Int {
	lists := [][]uint32{
		nil, {}, {0}, {0, 0, 0}, {1}, {2}, {3}, {5, 0}, {6}, {7, 0, 0}, {12}, {digit}, {digit, 0}, {0, 1}, {0, 1, 0}, {6, 3},
		{digit, 1<<31 - 1}, {0, 1 << 31}, {0, 1 << 31, 0}, {1, 1 << 31}, {digit - 1, 1<<31 - 1}, {digit, digit},
		{0, 0, 1}, {5, 0, 1}, {digit, digit, digit}, {0, 6, 0, 3}, {1, 2, 3, 4, 5, 6, 7}, {digit, 0, digit, 0, digit, 0},
	}
	var numbers []api.Int
	for _, mag := range lists {
		numbers = append(numbers, api.Int{Mag: mag}, api.Int{Neg: true, Mag: mag})
	}
	return numbers
}
