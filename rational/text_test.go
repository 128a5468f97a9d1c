package rational

import (
	"strings"
	"testing"

	"dspcompiler/api"
)

// P3.4
func TestFormat(t *testing.T) {
	for _, a := range samples() {
		if got := Format(a); got != value(a).RatString() {
			t.Error("Format", a, got)
		}
	}
	for _, x := range []struct {
		a    api.Rat
		want string
	}{
		{api.Rat{}, "0"}, {Of(0), "0"}, {rat(true, []uint32{5}, nil), "0"}, {rat(true, []uint32{0}, []uint32{5}), "0"},
		{Frac(6, -4), "-3/2"}, {Frac(6, 3), "2"}, {Frac(-6, 3), "-2"}, {rat(true, []uint32{6}, []uint32{4, 0}), "-3/2"},
		{rat(false, []uint32{4}, []uint32{2}), "2"}, {rat(false, []uint32{1}, []uint32{0, 1}), "1/4294967296"}, {Of(least), "-9223372036854775808"},
	} {
		if got := Format(x.a); got != x.want {
			t.Error("Format", x.a, got)
		}
	}
}

// P3.4
func TestParse(t *testing.T) {
	for _, s := range []string{
		"0", "1", "-1", "10", "-4294967296", "1/2", "-1/2", "2/3", "-7/3", "10/9", "1/10", "4294967295/4294967296", "-9223372036854775808/3",
		"123456789012345678901234567890/11", "-1/340282366920938463463374607431768211456",
		strings.Repeat("7", api.MaxText), "-" + strings.Repeat("7", api.MaxText-1),
		strings.Repeat("7", api.MaxText-2) + "/2", "-1/" + strings.Repeat("7", api.MaxText-3), "-" + strings.Repeat("7", api.MaxText-4) + "/10",
	} {
		a, e := Parse(s)
		if e != api.OK || !canonical(a) || value(a).RatString() != s || Format(a) != s {
			t.Error("Parse", s, a, e)
		}
	}
	for _, a := range samples() {
		if got, e := Parse(Format(a)); e != api.OK || !same(got, Trim(a)) {
			t.Error("Parse of Format", a, got, e)
		}
	}
}

// P3.4: texts that Format never writes.
func TestParseOfOtherTexts(t *testing.T) {
	for _, s := range []string{
		"", "/", "//", "1/", "/2", "-/2", "-", "-0", "--1", "+1", "01", "-01", "01/2", "1/02", "1/1", "-5/1", "0/1", "0/2", "-0/2", "2/4", "-2/4",
		"6/3", "3/3", "1/0", "0/0", "-1/0", "2/0", "1/00", "1/-2", "-1/-2", "1/+2", "1/2/3", "1/2/", "/1/2", "1//2", "0.5", "1 /2", "1/ 2", " 1/2", "1/2 ",
		"1/2\n", "1e3", "1/2e3", "0x1", "1_0/3", "a", "a/b", "1/b", "\x00", "1/2\x00", "\xff", "1∕2", "½", "1:2", "1\\2",
		strings.Repeat("/", api.MaxText), strings.Repeat("0", api.MaxText), strings.Repeat("2", api.MaxText-2) + "/2", strings.Repeat("7", api.MaxText-1) + "/",
	} {
		if a, e := Parse(s); e != api.ErrSyntax || !isNothing(a) {
			t.Error("Parse", s, a, e)
		}
	}
}

// P3.4: the length is looked at first, and that of the whole text counts.
func TestParseOfLongTexts(t *testing.T) {
	for _, s := range []string{
		strings.Repeat("1", api.MaxText+1), strings.Repeat("7", api.MaxText-1) + "/2", "1/" + strings.Repeat("7", api.MaxText-1), "-" + strings.Repeat("1", api.MaxText),
		strings.Repeat("/", api.MaxText+1), strings.Repeat("x", api.MaxText+1), "1/0" + strings.Repeat(" ", 2*api.MaxText),
	} {
		if a, e := Parse(s); e != api.ErrTooLong || !isNothing(a) {
			t.Error("Parse of a long text", len(s), s[:3], a, e)
		}
	}
}
