package interval

import (
	"dspcompiler/api"
	"dspcompiler/rational"
)

// Meet returns the numbers that are in a and in b, and true; or a zero value and false if there are none.
func Meet(a, b api.Interval) (api.Interval, bool) {
	lo, hi := ends(a)
	bLo, bHi := ends(b)
	if rational.Compare(lo, bLo) < 0 {
		lo = bLo
	}
	if rational.Compare(hi, bHi) > 0 {
		hi = bHi
	}
	if rational.Compare(lo, hi) > 0 {
		return api.Interval{}, false
	}
	return Make(lo, hi), true
}

// Hull returns the least interval that contains a and b.
func Hull(a, b api.Interval) api.Interval {
	all := [4]api.Rat{a.Lo, a.Hi, b.Lo, b.Hi}
	return Trim(span(all[:]))
}

// Round returns the least interval that contains a and whose ends are multiples of 2^(-bits); or ErrArg if bits is not from 0 to MaxBits.
func Round(a api.Interval, bits int) (api.Interval, api.Errno) {
	lo, hi := ends(a)
	down, e := rational.Down(lo, bits)
	if e != api.OK {
		return api.Interval{}, e
	}
	up, _ := rational.Up(hi, bits)
	return api.Interval{Lo: down, Hi: up}, api.OK
}
