package chebyshev

import (
	"math/big"

	"dspcompiler/api"
)

// model is a polynomial with coefficients of math/big, without zeros at its end. Its operations are written from their definitions, with which the results of the package are compared.
type model []*big.Rat

func modelOf(p []api.Rat) model {
	return model(valuesOf(p)).trimmed()
}

// valuesOf returns the values of a list of numbers, with the zeros at its end.
func valuesOf(list []api.Rat) []*big.Rat {
	var all []*big.Rat
	for _, c := range list {
		all = append(all, value(c))
	}
	return all
}

func (m model) trimmed() model {
	for len(m) > 0 && m[len(m)-1].Sign() == 0 {
		m = m[:len(m)-1]
	}
	return m
}

func (m model) equals(n model) bool {
	if len(m) != len(n) {
		return false
	}
	for i := range m {
		if m[i].Cmp(n[i]) != 0 {
			return false
		}
	}
	return true
}

// get returns the coefficient of a power, which is 0 where there is none.
func (m model) get(i int) *big.Rat {
	if i < len(m) {
		return m[i]
	}
	return new(big.Rat)
}

// plus returns the sum of m and c times n.
func (m model) plus(n model, c *big.Rat) model {
	var sum model
	for i := range max(len(m), len(n)) {
		term := new(big.Rat).Mul(n.get(i), c)
		sum = append(sum, term.Add(term, m.get(i)))
	}
	return sum.trimmed()
}

// up returns m times a power of x.
func (m model) up(n int) model {
	var list model
	for range n {
		list = append(list, new(big.Rat))
	}
	return append(list, m...)
}

// times returns the product of m and n.
func (m model) times(n model) model {
	var sum model
	for i, c := range m {
		sum = sum.plus(n.up(i), c)
	}
	return sum
}

// of returns m of n, by multiplications.
func (m model) of(n model) model {
	var sum model
	power := model{big.NewRat(1, 1)}
	for _, c := range m {
		sum = sum.plus(power, c)
		power = power.times(n)
	}
	return sum
}

// at returns the sum of the coefficients times the powers of x.
func (m model) at(x *big.Rat) *big.Rat {
	sum, power := new(big.Rat), big.NewRat(1, 1)
	for _, c := range m {
		sum.Add(sum, new(big.Rat).Mul(c, power))
		power.Mul(power, x)
	}
	return sum
}

// chebyshevs returns T_0 to T_n, by the recursion of the definition.
func chebyshevs(n int) []model {
	one, two := big.NewRat(1, 1), big.NewRat(2, 1)
	list := []model{{one}, model{one}.up(1)}
	for k := 2; k <= n; k++ {
		next := model{}.plus(list[k-1].up(1), two)
		list = append(list, next.plus(list[k-2], big.NewRat(-1, 1)))
	}
	return list
}

// sumOf returns the sum of the Chebyshev polynomials with these coefficients.
func sumOf(c []*big.Rat) model {
	var sum model
	for k, t := range chebyshevs(len(c))[:len(c)] {
		sum = sum.plus(t, c[k])
	}
	return sum
}

// crossed returns the polynomial of the definition of Cross.
func (m model) crossed(n model) model {
	var r []*big.Rat
	for k := range max(len(m), len(n)) {
		sum := new(big.Rat)
		for i := range max(len(m), len(n)) {
			sum.Add(sum, new(big.Rat).Mul(m.get(i), n.get(i+k)))
			if k > 0 {
				sum.Add(sum, new(big.Rat).Mul(m.get(i+k), n.get(i)))
			}
		}
		r = append(r, sum)
	}
	return sumOf(r)
}

// wave is a complex number with rational parts.
type wave struct{ re, im *big.Rat }

// circle returns e^(-iw) for some w, which are on the unit circle: x = cos w is the first part.
func circle() []wave {
	var list []wave
	for k := int64(-7); k <= 7; k++ {
		// The tangent of the half of the angle is k / 3.
		size := big.NewRat(9+k*k, 9)
		re, im := big.NewRat(9-k*k, 9), big.NewRat(6*k, 9)
		list = append(list, wave{re.Quo(re, size), im.Quo(im, size)})
	}
	return append(list, wave{big.NewRat(-1, 1), new(big.Rat)})
}

func (a wave) times(b wave) wave {
	re, im := new(big.Rat).Mul(a.re, b.re), new(big.Rat).Mul(a.re, b.im)
	re.Sub(re, new(big.Rat).Mul(a.im, b.im))
	return wave{re, im.Add(im, new(big.Rat).Mul(a.im, b.re))}
}

func (a wave) conjugate() wave {
	return wave{a.re, new(big.Rat).Neg(a.im)}
}

// power returns a to the n-th power.
func (a wave) power(n int) wave {
	product := wave{big.NewRat(1, 1), new(big.Rat)}
	for range n {
		product = product.times(a)
	}
	return product
}

// response returns the sum of the numbers times the powers of q = e^(-iw).
func response(list []*big.Rat, q wave) wave {
	sum, power := wave{new(big.Rat), new(big.Rat)}, q.power(0)
	for _, c := range list {
		sum.re.Add(sum.re, new(big.Rat).Mul(c, power.re))
		sum.im.Add(sum.im, new(big.Rat).Mul(c, power.im))
		power = power.times(q)
	}
	return sum
}
