package nat

import (
	"slices"
	"strings"
	"testing"

	"dspcompiler/api"
)

// P1.5
func TestFormat(t *testing.T) {
	for _, a := range samples() {
		if got := Format(a); got != value(a).String() {
			t.Error("Format", a, got)
		}
	}
	for _, x := range []struct {
		a    []uint32
		want string
	}{{nil, "0"}, {[]uint32{0, 0}, "0"}, {[]uint32{7, 0}, "7"}, {[]uint32{0, 1}, "4294967296"}, {[]uint32{999999999}, "999999999"}, {[]uint32{1000000000}, "1000000000"}} {
		if got := Format(x.a); got != x.want {
			t.Error("Format", x.a, got)
		}
	}
	long := Shift([]uint32{1}, api.MaxShift)
	if Format(long) != value(long).String() {
		t.Error("Format of a long number")
	}
}

// P1.5
func TestParse(t *testing.T) {
	texts := []string{"0", "1", "9", "10", "4294967295", "4294967296", "999999999", "1000000000", "1000000001", "18446744073709551616"}
	for n := 1; n < 60; n++ {
		texts = append(texts, "1"+strings.Repeat("0", n), strings.Repeat("9", n))
	}
	for _, s := range append(texts, strings.Repeat("7", api.MaxText)) {
		a, e := Parse(s)
		if e != api.OK || !Normal(a) || value(a).String() != s {
			t.Error("Parse", s, a, e)
		}
	}
}

// P1.5: texts that Format never writes.
func TestParseOfOtherTexts(t *testing.T) {
	texts := []string{
		"", " ", "00", "01", "007", "-0", "-1", "+1", " 1", "1 ", "1\n", "1.0", "1e3", "0x1f", "1_000", "a", "12a", "a12",
		"/", ":", "1/", "1:", "\x00", "1\x00", "\xff", "١", "123456789x", "12345678x9", "1234567890123456x",
	}
	for _, s := range append(texts, strings.Repeat("0", api.MaxText), strings.Repeat("1", api.MaxText-1)+"x") {
		if a, e := Parse(s); e != api.ErrSyntax || len(a) != 0 {
			t.Error("Parse", s, a, e)
		}
	}
	for c := range 256 {
		s := "1" + string([]byte{byte(c)}) + "2"
		a, e := Parse(s)
		if legal := '0' <= c && c <= '9'; legal != (e == api.OK) || !legal && len(a) != 0 {
			t.Errorf("Parse of %q: %v %v", s, a, e)
		}
	}
}

// P1.5: the length is looked at first.
func TestParseOfLongTexts(t *testing.T) {
	for _, s := range []string{"1", "0", "x", " "} {
		if a, e := Parse(strings.Repeat(s, api.MaxText+1)); e != api.ErrTooLong || len(a) != 0 {
			t.Error("Parse of a long text", s, a, e)
		}
	}
	// Format has no such bound.
	long := Shift([]uint32{1}, 4*api.MaxText)
	s := Format(long)
	if a, e := Parse(s); e != api.ErrTooLong || len(a) != 0 {
		t.Error("Parse of a long number", len(s), e)
	}
	short := Shift([]uint32{1}, 3*api.MaxText)
	if a, e := Parse(Format(short)); e != api.OK || !slices.Equal(a, short) {
		t.Error("Parse of a number", e)
	}
}
