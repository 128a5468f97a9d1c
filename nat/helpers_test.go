package nat

import (
	"math/big"
	"slices"
	"testing"
)

const most = 1<<32 - 1

// value returns the value of a list by the arithmetic of math/big, which the tests compare with.
func value(a []uint32) *big.Int {
	v := new(big.Int)
	for _, x := range slices.Backward(a) {
		v.Lsh(v, 32)
		v.Or(v, new(big.Int).SetUint64(uint64(x)))
	}
	return v
}

// expect checks that a result is normal and has the value that is wanted.
func expect(t *testing.T, got []uint32, want *big.Int, call string, arguments ...any) {
	t.Helper()
	if !Normal(got) || value(got).Cmp(want) != 0 {
		t.Errorf("%s%v is %v, not %v", call, arguments, got, want)
	}
}

// generator is a sequence of numbers that look random but are always the same.
type generator uint64

func (g *generator) next(below int) int {
	*g ^= *g << 13
	*g ^= *g >> 7
	*g ^= *g << 17
	return int(uint64(*g) >> 1 % uint64(below))
}

// list returns a list of the given length in which the digits at which carries and guesses go wrong are frequent.
func (g *generator) list(length int) []uint32 {
	extremes := []uint32{0, 1, most, most - 1, 1 << 31, 1<<31 - 1, 1<<31 + 1}
	a := make([]uint32, length)
	plain := g.next(2) == 0
	for i := range a {
		if plain {
			a[i] = uint32(g.next(1 << 32))
		} else {
			a[i] = extremes[g.next(len(extremes))]
		}
	}
	return a
}

// samples are lists of all sorts: empty, of zeros, not normal, short and long.
func samples() [][]uint32 {
	lists := [][]uint32{
		nil, {}, {0}, {0, 0, 0}, {1}, {2}, {3}, {7, 0}, {most}, {1 << 31}, {0, 1}, {0, 1, 0}, {most, most}, {0, 1 << 31},
		{0, 0, 1}, {1, 0, 1 << 31}, {most, most, most}, {most, 0, most}, {0, most, 1 << 31}, {0, 0, 0, 1 << 31},
		{5, most, most, 1<<31 - 1}, {0, 0, 1 << 31, 1<<31 - 1}, {3, 2, 1, most, most, 0, 0},
	}
	g := generator(20)
	for length := range 24 {
		lists = append(lists, g.list(length), g.list(length))
	}
	return lists
}
