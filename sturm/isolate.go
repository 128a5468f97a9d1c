package sturm

import (
	"dspcompiler/api"
	"dspcompiler/interval"
	"dspcompiler/poly"
	"dspcompiler/rational"
)

// Isolate returns as many intervals as Count, in ascending order, each of which contains exactly one root of p, is contained in the interval, and has a Width of at most 2^(-bits); or ErrArg if bits is out of range, or the errors of Count.
func Isolate(p api.Poly, on api.Interval, bits int) ([]api.Interval, api.Errno) {
	if bits < 0 || bits > api.MaxBits {
		return nil, api.ErrArg
	}
	if e := checkRoots(p); e != api.OK {
		return nil, e
	}
	// With simple roots alone the sign changes at each of them.
	p, width := primitive(poly.Squarefree(p)), powerOfHalf(bits)
	var list []api.Interval
	for x := range parts(p, on) {
		if x.roots > 0 {
			list = append(list, interval.Trim(narrowed(p, x.on, width)))
		}
	}
	return list, api.OK
}

// narrowed returns an interval around the only root in a part, which is a simple one: halves are taken as long as the part is too wide, or one of its ends is a root, which may be another one.
func narrowed(p api.Poly, on api.Interval, width api.Rat) api.Interval {
	low := signAfter(p, on.Lo)
	for rational.Compare(interval.Width(on), width) > 0 || sign(p, on.Lo) == 0 || sign(p, on.Hi) == 0 {
		mid := interval.Mid(on)
		switch sign(p, mid) {
		case 0:
			return api.Interval{Lo: mid, Hi: mid}
		case low:
			on.Lo = mid
		default:
			on.Hi = mid
		}
	}
	return on
}

// powerOfHalf returns 2^(-n).
func powerOfHalf(n int) api.Rat {
	power := rational.Of(1)
	for range n {
		power = rational.Mul(power, rational.Frac(1, 2))
	}
	return power
}
