package nat

import (
	"math/big"
	"slices"
	"testing"

	"dspcompiler/api"
)

// P1.1
func TestNormalAndTrim(t *testing.T) {
	for _, x := range []struct {
		a      []uint32
		normal bool
		trim   []uint32
	}{
		{nil, true, nil},
		{[]uint32{}, true, nil},
		{[]uint32{0}, false, nil},
		{[]uint32{0, 0}, false, nil},
		{[]uint32{5}, true, []uint32{5}},
		{[]uint32{5, 0, 0}, false, []uint32{5}},
		{[]uint32{0, 1}, true, []uint32{0, 1}},
		{[]uint32{0, 1, 0}, false, []uint32{0, 1}},
	} {
		if Normal(x.a) != x.normal {
			t.Error("Normal", x.a)
		}
		if got := Trim(x.a); !slices.Equal(got, x.trim) {
			t.Error("Trim", x.a, got)
		}
	}
	for _, a := range samples() {
		expect(t, Trim(a), value(a), "Trim", a)
	}
}

// P1.1
func TestCompare(t *testing.T) {
	for _, x := range []struct {
		a, b []uint32
		want int
	}{
		{nil, []uint32{0, 0}, 0},
		{[]uint32{3, 0}, []uint32{3}, 0},
		{[]uint32{9, 0, 0}, []uint32{0, 1}, -1},
		{[]uint32{1, 2}, []uint32{2, 1}, 1},
		{[]uint32{1, 2}, []uint32{2, 2}, -1},
	} {
		if Compare(x.a, x.b) != x.want || Compare(x.b, x.a) != -x.want {
			t.Error("Compare", x.a, x.b)
		}
	}
	for _, a := range samples() {
		for _, b := range samples() {
			if got := Compare(a, b); got != value(a).Cmp(value(b)) {
				t.Error("Compare", a, b, got)
			}
		}
	}
}

// P1.2
func TestSumsAndProducts(t *testing.T) {
	if got := Add([]uint32{most}, []uint32{1}); !slices.Equal(got, []uint32{0, 1}) {
		t.Error("the document's sum", got)
	}
	for _, a := range samples() {
		for _, b := range samples() {
			expect(t, Add(a, b), new(big.Int).Add(value(a), value(b)), "Add", a, b)
			expect(t, Mul(a, b), new(big.Int).Mul(value(a), value(b)), "Mul", a, b)
			difference := new(big.Int).Sub(value(a), value(b))
			if difference.Sign() < 0 {
				difference.SetInt64(0)
			}
			expect(t, Sub(a, b), difference, "Sub", a, b)
		}
	}
}

// P1.2
func TestSubOfGreater(t *testing.T) {
	for _, x := range [][2][]uint32{{{1}, {2}}, {nil, {1}}, {{0, 0}, {0, 1}}, {{most}, {0, 1}}, {{4}, {4, 0}}} {
		if got := Sub(x[0], x[1]); len(got) != 0 {
			t.Error("Sub", x, got)
		}
	}
}

// P1.2
func TestDivMod(t *testing.T) {
	q, r, e := DivMod([]uint32{0, 1}, []uint32{3})
	if e != api.OK || !slices.Equal(q, []uint32{1431655765}) || !slices.Equal(r, []uint32{1}) {
		t.Error("the document's quotient", q, r, e)
	}
	for _, a := range samples() {
		for _, b := range samples() {
			checkDivMod(t, a, b)
		}
	}
}

// P1.2: quotients whose digits are guessed too great are rare, and so are made on purpose.
func TestDivModOfProducts(t *testing.T) {
	g := generator(4)
	for range 4000 {
		a, b := g.list(1+g.next(5)), g.list(2+g.next(5))
		product := Mul(a, b)
		checkDivMod(t, product, b)
		checkDivMod(t, Add(product, Sub(b, []uint32{1})), b)
		checkDivMod(t, Sub(product, []uint32{1}), b)
	}
}

func checkDivMod(t *testing.T, a, b []uint32) {
	t.Helper()
	q, r, e := DivMod(a, b)
	if value(b).Sign() == 0 {
		if e != api.ErrZero || len(q) != 0 || len(r) != 0 {
			t.Error("division by 0", a, b, q, r, e)
		}
		return
	}
	if e != api.OK {
		t.Error("DivMod", a, b, e)
	}
	quotient, rest := new(big.Int).QuoRem(value(a), value(b), new(big.Int))
	expect(t, q, quotient, "DivMod, quotient", a, b)
	expect(t, r, rest, "DivMod, remainder", a, b)
}

// The consequences of chapter 1.
func TestLaws(t *testing.T) {
	g := generator(7)
	for range 500 {
		a, b, c := g.list(g.next(7)), g.list(g.next(7)), g.list(g.next(7))
		for _, x := range [][2][]uint32{
			{Add(a, b), Add(b, a)},
			{Mul(a, b), Mul(b, a)},
			{Add(Add(a, b), c), Add(a, Add(b, c))},
			{Mul(Mul(a, b), c), Mul(a, Mul(b, c))},
			{Mul(a, Add(b, c)), Add(Mul(a, b), Mul(a, c))},
			{Sub(Add(a, b), b), Trim(a)},
		} {
			if !slices.Equal(x[0], x[1]) {
				t.Error("a law is broken", a, b, c, x)
			}
		}
		if q, r, e := DivMod(a, b); e == api.OK && (Compare(r, b) >= 0 || Compare(Add(Mul(q, b), r), a) != 0) {
			t.Error("quotient and remainder", a, b, q, r)
		}
		if again, e := Parse(Format(a)); e != api.OK || !slices.Equal(again, Trim(a)) {
			t.Error("Parse of Format", a, again, e)
		}
	}
}

// allCalls calls every function that returns a list, with a and b, and returns all the lists.
func allCalls(a, b []uint32) [][]uint32 {
	q, r, _ := DivMod(a, b)
	p, _ := Pow(a, 3)
	p1, _ := Pow(a, 1)
	root, _ := Root(a, 2)
	root1, _ := Root(a, 1)
	Normal(a)
	Compare(a, b)
	BitLen(a)
	Format(a)
	return [][]uint32{
		Trim(a), Add(a, b), Add(b, a), Sub(a, b), Sub(b, a), Mul(a, b), q, r, Gcd(a, b), Gcd(b, a),
		Shift(a, 0), Shift(a, 1), Shift(a, 32), Shift(a, -1), Shift(a, -32), p, p1, root, root1,
	}
}

// R3: arguments stay as they are, also behind their ends, and no result shares memory with them or with another result.
func TestMemory(t *testing.T) {
	for _, a := range samples() {
		for _, b := range [][]uint32{nil, {1}, {0, 0}, {7, 0}, {0, 1}, {1, 2, 3}, a} {
			x, y := append(slices.Clone(a), 77), append(slices.Clone(b), 77)
			first := allCalls(x[:len(a)], y[:len(b)])
			wanted := make([][]uint32, len(first))
			for i, list := range first {
				wanted[i] = slices.Clone(list)
			}
			for i, list := range first {
				if !slices.Equal(list, wanted[i]) {
					t.Fatal("results share memory", a, b, i)
				}
				clear(list[:cap(list)])
			}
			if !slices.Equal(x, append(slices.Clone(a), 77)) || !slices.Equal(y, append(slices.Clone(b), 77)) {
				t.Fatal("an argument is modified", a, b, x, y)
			}
			for i, list := range allCalls(x[:len(a)], y[:len(b)]) {
				if !slices.Equal(list, wanted[i]) {
					t.Fatal("the second result differs", a, b, i)
				}
			}
		}
	}
}
