package nat

import (
	"slices"

	"dspcompiler/api"
)

// Texts are read and written in groups of decimal digits: groupBase, 10 to the power groupDigits, is the greatest one that a digit has room for.
const (
	groupDigits = 9
	groupBase   = 1000000000
)

// Format returns a in decimal digits, without leading zeros.
func Format(a []uint32) string {
	rest := cut(slices.Clone(a))
	// A digit has fewer than ten decimal digits, and the last group may be filled with zeros.
	text := make([]byte, 10*len(rest)+groupDigits)
	at := len(text)
	for len(rest) > 0 {
		group := divideByDigit(rest, groupBase)
		rest = cut(rest)
		for range groupDigits {
			at--
			text[at] = byte('0' + group%10)
			group /= 10
		}
	}
	for at < len(text) && text[at] == '0' {
		at++
	}
	if at == len(text) {
		return "0"
	}
	return string(text[at:])
}

// Parse returns the number for which Format returns s; or ErrTooLong, or ErrSyntax.
func Parse(s string) ([]uint32, api.Errno) {
	if len(s) > api.MaxText {
		return nil, api.ErrTooLong
	}
	if s == "" || s[0] == '0' && s != "0" {
		return nil, api.ErrSyntax
	}
	a := make([]uint32, 0, len(s)/groupDigits+1)
	read := 0
groups:
	for read < len(s) {
		group, scale := uint32(0), uint32(1)
		for range min(groupDigits, len(s)-read) {
			c := s[read]
			if c < '0' || c > '9' {
				break groups
			}
			group = 10*group + uint32(c-'0')
			scale *= 10
			read++
		}
		a = scaleAndAdd(a, scale, group)
	}
	if read < len(s) {
		return nil, api.ErrSyntax
	}
	return normal(a), api.OK
}

// scaleAndAdd replaces a by a times scale plus add, and returns it with the digit that may follow.
func scaleAndAdd(a []uint32, scale, add uint32) []uint32 {
	carry := uint64(add)
	for i, x := range a {
		carry += uint64(x) * uint64(scale)
		a[i] = uint32(carry)
		carry >>= digitBits
	}
	if carry == 0 {
		return a
	}
	return append(a, uint32(carry))
}
