package integer

import (
	"math/big"
	"strings"
	"testing"

	"dspcompiler/api"
)

// P2.1
func TestValidAndTrim(t *testing.T) {
	for _, x := range []struct {
		a     api.Int
		valid bool
		trim  api.Int
	}{
		{api.Int{}, true, api.Int{}},
		{api.Int{Mag: []uint32{}}, true, api.Int{}},
		{api.Int{Neg: true}, false, api.Int{}},
		{api.Int{Neg: true, Mag: []uint32{}}, false, api.Int{}},
		{api.Int{Mag: []uint32{0}}, false, api.Int{}},
		{api.Int{Neg: true, Mag: []uint32{0, 0}}, false, api.Int{}},
		{api.Int{Mag: []uint32{1}}, true, api.Int{Mag: []uint32{1}}},
		{api.Int{Neg: true, Mag: []uint32{1}}, true, api.Int{Neg: true, Mag: []uint32{1}}},
		{api.Int{Mag: []uint32{1, 0}}, false, api.Int{Mag: []uint32{1}}},
		{api.Int{Neg: true, Mag: []uint32{7, 0, 0}}, false, api.Int{Neg: true, Mag: []uint32{7}}},
		{api.Int{Neg: true, Mag: []uint32{0, 1}}, true, api.Int{Neg: true, Mag: []uint32{0, 1}}},
		{api.Int{Mag: []uint32{0, 1, 0}}, false, api.Int{Mag: []uint32{0, 1}}},
	} {
		if Valid(x.a) != x.valid {
			t.Error("Valid", x.a)
		}
		if got := Trim(x.a); !same(got, x.trim) {
			t.Error("Trim", x.a, got)
		}
	}
	for _, a := range samples() {
		if Valid(a) != canonical(a) {
			t.Error("Valid", a)
		}
		expect(t, Trim(a), value(a), "Trim", a)
	}
}

// P2.1
func TestOf(t *testing.T) {
	for _, n := range []int{
		0, 1, -1, 2, -2, digit, -digit, digit + 1, -digit - 1, digit + 2, 1 << 62, -1 << 62, most, most - 1, least, least + 1, least + 2,
	} {
		a := Of(n)
		expect(t, a, big.NewInt(int64(n)), "Of", n)
		if m, ok := Small(a); m != n || !ok {
			t.Error("Small of Of", n, m, ok)
		}
	}
}

// P2.1
func TestSmall(t *testing.T) {
	for _, a := range samples() {
		want := value(a)
		n, ok := Small(a)
		if ok != want.IsInt64() || ok && int64(n) != want.Int64() || !ok && n != 0 {
			t.Error("Small", a, n, ok)
		}
	}
	for _, x := range []struct {
		a    api.Int
		want int
		ok   bool
	}{
		{api.Int{Mag: []uint32{digit, 1<<31 - 1}}, most, true},
		{api.Int{Mag: []uint32{digit, 1<<31 - 1, 0, 0}}, most, true},
		{api.Int{Mag: []uint32{0, 1 << 31}}, 0, false},
		{api.Int{Neg: true, Mag: []uint32{0, 1 << 31}}, least, true},
		{api.Int{Neg: true, Mag: []uint32{0, 1 << 31, 0}}, least, true},
		{api.Int{Neg: true, Mag: []uint32{1, 1 << 31}}, 0, false},
		{api.Int{Mag: []uint32{5, 0, 1}}, 0, false},
		{api.Int{Neg: true, Mag: []uint32{5, 0, 1}}, 0, false},
		{api.Int{Neg: true, Mag: []uint32{5, 0, 0, 0}}, -5, true},
		{api.Int{Neg: true, Mag: []uint32{0, 0, 0}}, 0, true},
	} {
		if n, ok := Small(x.a); n != x.want || ok != x.ok {
			t.Error("Small", x.a, n, ok)
		}
	}
	for _, a := range []api.Int{Add(Of(most), Of(1)), Sub(Of(least), Of(1))} {
		if n, ok := Small(a); n != 0 || ok {
			t.Error("Small beyond the range", a, n, ok)
		}
	}
}

// P2.4
func TestFormat(t *testing.T) {
	for _, a := range samples() {
		if got := Format(a); got != value(a).String() {
			t.Error("Format", a, got)
		}
	}
	for _, x := range []struct {
		a    api.Int
		want string
	}{
		{api.Int{}, "0"},
		{api.Int{Neg: true}, "0"},
		{api.Int{Neg: true, Mag: []uint32{0}}, "0"},
		{api.Int{Mag: []uint32{7, 0}}, "7"},
		{api.Int{Neg: true, Mag: []uint32{7, 0}}, "-7"},
		{Of(least), "-9223372036854775808"},
	} {
		if got := Format(x.a); got != x.want {
			t.Error("Format", x.a, got)
		}
	}
}

// P2.4
func TestParse(t *testing.T) {
	for _, s := range []string{
		"0", "1", "-1", "9", "-10", "4294967295", "4294967296", "-4294967296", "9223372036854775807", "-9223372036854775808",
		"123456789012345678901234567890", "-98765432109876543210", strings.Repeat("7", api.MaxText), "-" + strings.Repeat("7", api.MaxText-1),
	} {
		a, e := Parse(s)
		if e != api.OK || !canonical(a) || value(a).String() != s || Format(a) != s {
			t.Error("Parse", s, a, e)
		}
	}
	for _, a := range samples() {
		if got, e := Parse(Format(a)); e != api.OK || !same(got, Trim(a)) {
			t.Error("Parse of Format", a, got, e)
		}
	}
}

// P2.4: texts that Format never writes.
func TestParseOfOtherTexts(t *testing.T) {
	for _, s := range []string{
		"", "-", "-0", "--1", "--", "+1", "+", "+-1", "-+1", "01", "00", "-01", "-00", "1-", "-1-", "1-1", " 1", "1 ", "- 1", "-1 ", "-1\n",
		"1.0", "-1.5", "1e3", "0x1f", "1_000", "a", "-a", "12a", "\x00", "-1\x00", "\xff", "−1", "-١", "1/2",
		strings.Repeat("0", api.MaxText), strings.Repeat("-", api.MaxText), "-" + strings.Repeat("0", api.MaxText-1), strings.Repeat("1", api.MaxText-1) + "-",
	} {
		if a, e := Parse(s); e != api.ErrSyntax || !isNothing(a) {
			t.Error("Parse", s, a, e)
		}
	}
}

// P2.4: the length is looked at first, and the sign belongs to it.
func TestParseOfLongTexts(t *testing.T) {
	for _, s := range []string{
		strings.Repeat("1", api.MaxText+1), "-" + strings.Repeat("1", api.MaxText), strings.Repeat("0", api.MaxText+1), "-" + strings.Repeat("0", api.MaxText),
		strings.Repeat("x", api.MaxText+1), strings.Repeat("-", api.MaxText+1), strings.Repeat(" ", 2*api.MaxText),
	} {
		if a, e := Parse(s); e != api.ErrTooLong || !isNothing(a) {
			t.Error("Parse of a long text", len(s), s[:2], a, e)
		}
	}
}
