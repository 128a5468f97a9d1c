package rational

import (
	"strings"

	"dspcompiler/api"
	"dspcompiler/integer"
	"dspcompiler/nat"
)

// Format returns the numerator of a in decimal, and, if the denominator is not 1, "/" and the denominator.
func Format(a api.Rat) string {
	f := read(a).reduce()
	text := integer.Format(f.num)
	if isOne(f.den.Mag) {
		return text
	}
	return text + "/" + integer.Format(f.den)
}

// Parse returns the number for which Format returns s; or ErrTooLong if s has more than MaxText bytes, or ErrSyntax if there is none.
func Parse(s string) (api.Rat, api.Errno) {
	if len(s) > api.MaxText {
		return api.Rat{}, api.ErrTooLong
	}
	above, below, parted := strings.Cut(s, "/")
	num, e := integer.Parse(above)
	if e != api.OK {
		return api.Rat{}, e
	}
	if !parted {
		return whole(num).result(), api.OK
	}
	den, e := nat.Parse(below)
	if e != api.OK {
		return api.Rat{}, e
	}
	a := api.Rat{Num: num, Den: den}
	if isOne(den) || !Valid(a) {
		return api.Rat{}, api.ErrSyntax
	}
	return a, api.OK
}
