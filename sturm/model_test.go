package sturm

import (
	"math/big"
	"slices"

	"dspcompiler/api"
)

// model is a polynomial with coefficients of math/big, without zeros at its end. Its operations are written from their definitions, with which the results of the package are compared.
type model []*big.Rat

func modelOf(p api.Poly) model {
	var m model
	for _, c := range p {
		m = append(m, value(c))
	}
	return m.trimmed()
}

func (m model) trimmed() model {
	for len(m) > 0 && m[len(m)-1].Sign() == 0 {
		m = m[:len(m)-1]
	}
	return m
}

func (m model) scaled(c *big.Rat) model {
	var list model
	for _, x := range m {
		list = append(list, new(big.Rat).Mul(x, c))
	}
	return list
}

// signAt returns the sign of the sum of the coefficients times the powers of x.
func (m model) signAt(x *big.Rat) int {
	sum, power := new(big.Rat), big.NewRat(1, 1)
	for _, c := range m {
		sum.Add(sum, new(big.Rat).Mul(c, power))
		power.Mul(power, x)
	}
	return sum.Sign()
}

func (m model) derivative() model {
	var list model
	for i := 1; i < len(m); i++ {
		list = append(list, new(big.Rat).Mul(m[i], big.NewRat(int64(i), 1)))
	}
	return list
}

// divMod is the division by hand, by an n that is not zero.
func (m model) divMod(n model) (quotient, rest model) {
	rest = slices.Clone(m)
	for len(rest) >= len(n) {
		factor := new(big.Rat).Quo(rest[len(rest)-1], n[len(n)-1])
		shift := len(rest) - len(n)
		for i, c := range n {
			rest[shift+i] = new(big.Rat).Sub(rest[shift+i], new(big.Rat).Mul(c, factor))
		}
		quotient = append(quotient, factor)
		rest = rest[:len(rest)-1]
	}
	slices.Reverse(quotient)
	return quotient, rest.trimmed()
}

// simple returns a polynomial with the same roots, each of them once. m is not zero.
func (m model) simple() model {
	a, b := m, m.derivative()
	for len(b) > 0 {
		_, rest := a.divMod(b)
		a, b = b, rest
	}
	quotient, _ := m.divMod(a)
	return quotient
}

// counter returns a function for the number of different roots in an interval, by Sturm's theorem as it is usually written: for simple roots, with signs at the ends.
func (m model) counter() func(lo, hi *big.Rat) int {
	m = m.simple()
	chain := []model{m, m.derivative()}
	for len(chain[len(chain)-1]) > 0 {
		_, rest := chain[len(chain)-2].divMod(chain[len(chain)-1])
		chain = append(chain, rest.scaled(big.NewRat(-1, 1)))
	}
	return func(lo, hi *big.Rat) int {
		count := variationsOf(chain, lo) - variationsOf(chain, hi)
		if m.signAt(lo) == 0 {
			count++
		}
		return count
	}
}

// count returns the number of different roots in an interval.
func (m model) count(lo, hi *big.Rat) int {
	return m.counter()(lo, hi)
}

func variationsOf(chain []model, x *big.Rat) int {
	var signs []int
	for _, m := range chain {
		if s := m.signAt(x); s != 0 {
			signs = append(signs, s)
		}
	}
	count := 0
	for i := 1; i < len(signs); i++ {
		if signs[i] != signs[i-1] {
			count++
		}
	}
	return count
}

// between returns the number in the middle.
func between(x, y *big.Rat) *big.Rat {
	sum := new(big.Rat).Add(x, y)
	return sum.Quo(sum, big.NewRat(2, 1))
}
