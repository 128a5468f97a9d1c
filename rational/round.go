package rational

import (
	"dspcompiler/api"
	"dspcompiler/integer"
	"dspcompiler/nat"
)

// Floor returns the greatest integer that is not greater than a.
func Floor(a api.Rat) api.Int {
	return read(a).floor()
}

// Down returns the greatest multiple of 2^(-bits) that is not greater than a; or ErrArg if bits is not from 0 to MaxBits.
func Down(a api.Rat, bits int) (api.Rat, api.Errno) {
	return rounded(a, bits, fraction.down)
}

// Up returns the least multiple of 2^(-bits) that is not less than a; or ErrArg if bits is not from 0 to MaxBits.
func Up(a api.Rat, bits int) (api.Rat, api.Errno) {
	return rounded(a, bits, fraction.up)
}

// Nearest returns the multiple of 2^(-bits) that is nearest to a, and the greater one of two; or ErrArg if bits is not from 0 to MaxBits.
func Nearest(a api.Rat, bits int) (api.Rat, api.Errno) {
	return rounded(a, bits, fraction.nearest)
}

func rounded(a api.Rat, bits int, round func(fraction, int) fraction) (api.Rat, api.Errno) {
	if bits < 0 || bits > api.MaxBits {
		return api.Rat{}, api.ErrArg
	}
	return round(read(a), bits).result(), api.OK
}

// floor returns the greatest integer that is not greater than f.
func (f fraction) floor() api.Int {
	quotient, _, _ := integer.Div(f.num, f.den)
	return quotient
}

func (f fraction) down(bits int) fraction {
	scale := powerOfTwo(bits)
	return fraction{fraction{integer.Mul(f.num, scale), f.den}.floor(), scale}
}

func (f fraction) up(bits int) fraction {
	return f.negation().down(bits).negation()
}

func (f fraction) nearest(bits int) fraction {
	half := fraction{integer.Of(1), powerOfTwo(bits + 1)}
	return f.plus(half).down(bits)
}

// powerOfTwo returns 2^n for an n from 0 to MaxShift.
func powerOfTwo(n int) api.Int {
	return api.Int{Mag: nat.Shift([]uint32{1}, n)}
}
