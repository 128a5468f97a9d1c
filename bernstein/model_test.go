package bernstein

import (
	"math/big"

	"dspcompiler/api"
)

// model is a polynomial with coefficients of math/big, without zeros at its end. Its operations are written from their definitions, with which the results of the package are compared.
type model []*big.Rat

func modelOf(p api.Poly) model {
	var m model
	for _, c := range p {
		m = append(m, value(c))
	}
	for len(m) > 0 && m[len(m)-1].Sign() == 0 {
		m = m[:len(m)-1]
	}
	return m
}

// at returns the sum of the coefficients times the powers of x.
func (m model) at(x *big.Rat) *big.Rat {
	sum, power := new(big.Rat), big.NewRat(1, 1)
	for _, c := range m {
		sum.Add(sum, new(big.Rat).Mul(c, power))
		power.Mul(power, x)
	}
	return sum
}

// power returns x to the n-th power, by multiplications.
func power(x *big.Rat, n int) *big.Rat {
	product := big.NewRat(1, 1)
	for range n {
		product.Mul(product, x)
	}
	return product
}

func binomial(n, k int) *big.Rat {
	return new(big.Rat).SetInt(new(big.Int).Binomial(int64(n), int64(k)))
}

// mix returns lo (1 - t) + hi t.
func mix(lo, hi, t *big.Rat) *big.Rat {
	difference := new(big.Rat).Sub(hi, lo)
	return difference.Add(difference.Mul(difference, t), lo)
}

// bernsteinSum returns the sum of the definition: Bernstein coefficients times their polynomials at t.
func bernsteinSum(list []*big.Rat, t *big.Rat) *big.Rat {
	sum := new(big.Rat)
	n := len(list) - 1
	rest := new(big.Rat).Sub(big.NewRat(1, 1), t)
	for i, c := range list {
		term := new(big.Rat).Mul(c, binomial(n, i))
		term.Mul(term, power(t, i))
		sum.Add(sum, term.Mul(term, power(rest, n-i)))
	}
	return sum
}

// coefficients returns the Bernstein coefficients by the usual formula: if d are the coefficients of the powers of t, c[j] is the sum of d[i] C(j, i) / C(n, i).
func (m model) coefficients(lo, hi *big.Rat) []*big.Rat {
	n := len(m) - 1
	d := m.inPowers(lo, new(big.Rat).Sub(hi, lo))
	var list []*big.Rat
	for j := range m {
		sum := new(big.Rat)
		for i := range j + 1 {
			ratio := new(big.Rat).Quo(binomial(j, i), binomial(n, i))
			sum.Add(sum, ratio.Mul(ratio, d[i]))
		}
		list = append(list, sum)
	}
	return list
}

// inPowers returns the coefficients of the powers of t of the polynomial at lo + t width, by the binomial theorem.
func (m model) inPowers(lo, width *big.Rat) []*big.Rat {
	var list []*big.Rat
	for i := range m {
		sum := new(big.Rat)
		for k := i; k < len(m); k++ {
			term := new(big.Rat).Mul(m[k], binomial(k, i))
			sum.Add(sum, term.Mul(term, power(lo, k-i)))
		}
		list = append(list, sum.Mul(sum, power(width, i)))
	}
	return list
}

// leastAndGreatest returns the ends of the range of Bernstein coefficients, which are both 0 for the zero polynomial.
func leastAndGreatest(list []*big.Rat) (least, greatest *big.Rat) {
	least, greatest = new(big.Rat), new(big.Rat)
	for i, c := range list {
		if i == 0 || c.Cmp(least) < 0 {
			least = c
		}
		if i == 0 || c.Cmp(greatest) > 0 {
			greatest = c
		}
	}
	return least, greatest
}

func (m model) isProved(lo, hi *big.Rat) bool {
	least, _ := leastAndGreatest(m.coefficients(lo, hi))
	return least.Sign() > 0
}

// cells returns the ends of the cells, or false if one would have too great a depth.
func (m model) cells(lo, hi *big.Rat, depth int) ([][2]*big.Rat, bool) {
	if m.isProved(lo, hi) {
		return [][2]*big.Rat{{lo, hi}}, true
	}
	if depth == api.MaxDepth {
		return nil, false
	}
	mid := mix(lo, hi, big.NewRat(1, 2))
	left, ok := m.cells(lo, mid, depth+1)
	if !ok {
		return nil, false
	}
	right, ok := m.cells(mid, hi, depth+1)
	return append(left, right...), ok
}

// bound returns the ends of the hull of the ranges on n equal parts.
func (m model) bound(lo, hi *big.Rat, n int) (least, greatest *big.Rat) {
	for i := range n {
		from, to := mix(lo, hi, big.NewRat(int64(i), int64(n))), mix(lo, hi, big.NewRat(int64(i+1), int64(n)))
		a, b := leastAndGreatest(m.coefficients(from, to))
		if i == 0 || a.Cmp(least) < 0 {
			least = a
		}
		if i == 0 || b.Cmp(greatest) > 0 {
			greatest = b
		}
	}
	return least, greatest
}
