package poly

import (
	"math/big"
	"slices"

	"dspcompiler/api"
)

// model is a polynomial with coefficients of math/big, without zeros at its end. Its operations are written from their definitions, with which the results of the package are compared.
type model []*big.Rat

func modelOf(p api.Poly) model {
	var m model
	for _, c := range p {
		m = append(m, value(c))
	}
	return m.trimmed()
}

func (m model) trimmed() model {
	for len(m) > 0 && m[len(m)-1].Sign() == 0 {
		m = m[:len(m)-1]
	}
	return m
}

func (m model) equals(n model) bool {
	return slices.EqualFunc(m, n, func(a, b *big.Rat) bool { return a.Cmp(b) == 0 })
}

func (m model) at(i int) *big.Rat {
	if i < len(m) {
		return m[i]
	}
	return new(big.Rat)
}

func (m model) plus(n model) model {
	var sum model
	for i := range max(len(m), len(n)) {
		sum = append(sum, new(big.Rat).Add(m.at(i), n.at(i)))
	}
	return sum.trimmed()
}

func (m model) scaled(c *big.Rat) model {
	return m.times(model{c}.trimmed())
}

func (m model) minus(n model) model {
	return m.plus(n.scaled(big.NewRat(-1, 1)))
}

// times adds up the products for each power.
func (m model) times(n model) model {
	var product model
	for power := range len(m) + len(n) {
		sum := new(big.Rat)
		for i := range power + 1 {
			sum.Add(sum, new(big.Rat).Mul(m.at(i), n.at(power-i)))
		}
		product = append(product, sum)
	}
	return product.trimmed()
}

func (m model) power(n int) model {
	result := model{big.NewRat(1, 1)}
	for range n {
		result = result.times(m)
	}
	return result
}

// valueAt returns the sum of the coefficients times the powers of x.
func (m model) valueAt(x *big.Rat) *big.Rat {
	sum, power := new(big.Rat), big.NewRat(1, 1)
	for _, c := range m {
		sum.Add(sum, new(big.Rat).Mul(c, power))
		power.Mul(power, x)
	}
	return sum
}

// of returns the sum of the coefficients times the powers of n.
func (m model) of(n model) model {
	var sum model
	for i, c := range m {
		sum = sum.plus(n.power(i).scaled(c))
	}
	return sum
}

func (m model) derivative() model {
	var list model
	for i := 1; i < len(m); i++ {
		list = append(list, new(big.Rat).Mul(m[i], big.NewRat(int64(i), 1)))
	}
	return list
}

// monic is for models that are not zero.
func (m model) monic() model {
	return m.scaled(new(big.Rat).Inv(m[len(m)-1]))
}

// divMod is the division by hand, by an n that is not zero.
func (m model) divMod(n model) (quotient, rest model) {
	rest = m
	for len(rest) >= len(n) {
		term := make(model, len(rest)-len(n)+1)
		for i := range term {
			term[i] = new(big.Rat)
		}
		term[len(term)-1].Quo(rest[len(rest)-1], n[len(n)-1])
		quotient, rest = quotient.plus(term), rest.minus(term.times(n))
	}
	return quotient, rest
}

// gcd is Euclid's algorithm.
func (m model) gcd(n model) model {
	for len(n) > 0 {
		_, rest := m.divMod(n)
		m, n = n, rest
	}
	if len(m) == 0 {
		return nil
	}
	return m.monic()
}
