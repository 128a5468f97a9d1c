package chebyshev

import (
	"reflect"
	"slices"
	"testing"

	"dspcompiler/api"
	"dspcompiler/poly"
	"dspcompiler/rational"
)

// resultsOf returns the results of all functions for two polynomials and a symmetric sequence. Each function is called twice, so that results of equal calls are compared, too.
func resultsOf(b, c api.Poly, h []api.Rat) [][]api.Rat {
	var all [][]api.Rat
	for range 2 {
		t, _ := T(len(c))
		constant, _ := T(0)
		from, _ := FromBasis(b)
		amplitude, _ := Amplitude(h)
		taps, _ := Taps(c, 25)
		tap, _ := Taps(b, api.MaxDegree)
		cross, _ := Cross(b, c)
		turned, _ := Cross(c, b)
		magnitude, _ := Magnitude(b)
		all = append(all, t, constant, ToBasis(b), from, amplitude, taps, tap, cross, turned, magnitude)
	}
	return all
}

// padded returns a copy of the numbers that has more memory behind the ends of all its lists, and a copy that has this memory before its ends.
func padded(p []api.Rat) ([]api.Rat, []api.Rat) {
	var inner, outer []api.Rat
	for _, c := range append(slices.Clone(p), rational.Of(5)) {
		num, den := append(slices.Clone(c.Num.Mag), 77), append(slices.Clone(c.Den), 77)
		outer = append(outer, rat(c.Num.Neg, num, den))
		inner = append(inner, rat(c.Num.Neg, num[:len(num)-1], den[:len(den)-1]))
	}
	return inner[:len(p)], outer
}

// clearAll clears all lists of digits one by one, and then the lists of numbers, which must change no other one.
func clearAll(t *testing.T, results [][]api.Rat) {
	t.Helper()
	var all, wanted [][]uint32
	for _, list := range results {
		for _, x := range list {
			all = append(all, x.Num.Mag, x.Den)
		}
	}
	for _, list := range all {
		wanted = append(wanted, slices.Clone(list))
	}
	for i, list := range all {
		if !slices.Equal(list, wanted[i]) {
			t.Fatal("lists of digits share memory", i)
		}
		list = list[:cap(list)]
		for j := range list {
			list[j] = 99
		}
	}
	for i, list := range results {
		for j := range list[:cap(list)] {
			if j < len(list) && reflect.DeepEqual(list[j], api.Rat{}) {
				t.Fatal("lists of numbers share memory", i)
			}
			list[:cap(list)][j] = api.Rat{}
		}
	}
}

// R3: arguments stay as they are, also behind their ends, and no list of a result shares memory with them or with another list.
func TestMemory(t *testing.T) {
	all := append(samples(), zeros()...)
	for i, b := range all {
		for j := range 3 {
			c := all[(5*i+7*j+1)%len(all)]
			sequence := mirrored(append(of(2), c...))
			x, outerX := padded(b)
			y, outerY := padded(c)
			h, outerH := padded(sequence)
			clearAll(t, resultsOf(x, y, h))
			for k, a := range [][3][]api.Rat{{b, x, outerX}, {c, y, outerY}, {sequence, h, outerH}} {
				want := append(slices.Clone(a[0]), rational.Of(5))
				if _, before := padded(a[0]); !reflect.DeepEqual(a[2], before) || !slices.EqualFunc(a[1][:len(want)], want, sameRat) {
					t.Fatal("an argument is modified", k, b, c)
				}
			}
			if !reflect.DeepEqual(resultsOf(x, y, h), resultsOf(b, c, sequence)) {
				t.Fatal("the second results differ", b, c)
			}
		}
	}
}

// R3: all lists of the arguments may be the same memory, and those of the results are not.
func TestSharedArgument(t *testing.T) {
	digits := []uint32{6, 3}
	one := rat(false, digits, digits)
	p := api.Poly{one, one, one}
	results := resultsOf(p, p, p)
	for i, want := range []api.Poly{of(0, -3, 0, 4), of(1), over(2, 3, 2, 1), of(0, 1, 2), of(1, 2)} {
		if !same(results[i], want) {
			t.Error(i, results[i])
		}
	}
	if m := results[9]; !same(m, of(1, 4, 4)) {
		t.Error("Magnitude", m)
	}
	clearAll(t, results)
	if !slices.Equal(digits, []uint32{6, 3}) || !slices.EqualFunc(p, api.Poly{one, one, one}, sameRat) {
		t.Error("the argument is modified", p)
	}
}

// R4: equal values are equal results, also where one list would be nil and the other one empty.
func TestPlainData(t *testing.T) {
	all := append(samples(), zeros()...)
	for i, b := range all {
		c := all[(5*i+3)%len(all)]
		h := mirrored(append(of(2), c...))
		first, second := resultsOf(poly.Trim(b), poly.Trim(c), h), resultsOf(loose(poly.Trim(b)), loose(poly.Trim(c)), looseList(h))
		for k := range first {
			// The first result depends on the number of elements.
			if k%10 != 0 && !reflect.DeepEqual(first[k], second[k]) {
				t.Errorf("%v and %v: %v and %v", b, c, first[k], second[k])
			}
		}
	}
}
