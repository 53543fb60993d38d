package poly_test

import (
	"math"
	"math/big"
	"testing"

	"orrery/api"
	"orrery/grain"
	"orrery/poly"
	"orrery/span"
)

func sum(x, y *big.Float) *big.Float { return new(big.Float).SetPrec(4000).Add(x, y) }

func product(x, y *big.Float) *big.Float { return new(big.Float).SetPrec(4000).Mul(x, y) }

func number(t *testing.T, f form, c []float64, x float64) float64 {
	t.Helper()
	y, err := f.call(c, x)
	if err != api.OK {
		t.Fatalf("%s(%v, %v): %v", f.name, c, x, err)
	}
	return y
}

func over(t *testing.T, f form, c []float64, x api.Span) api.Span {
	t.Helper()
	y, err := f.over(c, x)
	if err != api.OK {
		t.Fatalf("%sSpan(%v, %v): %v", f.name, c, x, err)
	}
	return y
}

// P6.2.

func TestSmallerInSmallerOut(t *testing.T) {
	s := chance(11)
	for _, f := range forms() {
		for _, c := range lists() {
			for _, great := range spans(&s, f.most) {
				whole := over(t, f, c, great)
				for _, small := range parts(&s, great) {
					if part := over(t, f, c, small); !span.Inside(part, whole) {
						t.Errorf("%sSpan(%v) over %v: %v, over %v: %v", f.name, c, small, part, great, whole)
					}
				}
			}
		}
	}
}

// parts: spans that lie in a: its ends, its middle and others.
func parts(s *chance, a api.Span) []api.Span {
	l := []api.Span{point(a.Lo), point(a.Hi), a}
	x, y := within(s, a), within(s, a)
	if grain.Fit(x) && grain.Fit(y) {
		l = append(l, to(min(x, y), max(x, y)), to(a.Lo, x), to(y, a.Hi))
	}
	return l
}

// within: a number of the span, which may be unfit.
func within(s *chance, a api.Span) float64 {
	return min(max(a.Lo+float64(s.part()*(a.Hi-a.Lo)), a.Lo), a.Hi)
}

// P6.3.

// total: the sum of the magnitudes of c, each with m to its power.
func total(c []float64, m float64) *big.Float {
	all, power := exact(0), exact(1)
	for _, a := range c {
		all = sum(all, product(exact(math.Abs(a)), power))
		power = product(power, exact(m))
	}
	return all
}

// near: does x lie in a, or no farther off than so much?
func near(a api.Span, x float64, off *big.Float) bool {
	return sum(exact(x), off).Cmp(exact(a.Lo)) >= 0 && sum(exact(a.Hi), off).Cmp(exact(x)) >= 0
}

func TestNumbersLieInSpansByPowers(t *testing.T) {
	f := forms()[0]
	s := chance(12)
	for _, c := range lists() {
		for _, x := range arguments(&s, f.most) {
			off := product(exact(0x1p-44), total(c, max(1, math.Abs(x))))
			if y, a := number(t, f, c, x), over(t, f, c, point(x)); !near(a, y, sum(off, exact(0x1p-190))) {
				t.Errorf("Horner(%v, %v): %v lies too far from %v", c, x, y, a)
			}
		}
	}
}

func TestNumbersLieInSpansByChebyshevs(t *testing.T) {
	f := forms()[1]
	s := chance(13)
	for _, c := range lists() {
		for _, x := range arguments(&s, f.most) {
			off := product(exact(0x1p-40), total(c, 1))
			if y, a := number(t, f, c, x), over(t, f, c, point(x)); !near(a, y, sum(off, exact(0x1p-190))) {
				t.Errorf("Cheb(%v, %v): %v lies too far from %v", c, x, y, a)
			}
		}
	}
}

// P4: the spans hold the true values, worked out without rounding.

func trueByPowers(c []float64, x float64) *big.Float {
	all, power := exact(0), exact(1)
	for _, a := range c {
		all = sum(all, product(exact(a), power))
		power = product(power, exact(x))
	}
	return all
}

func trueByChebyshevs(c []float64, x float64) *big.Float {
	all, now, next := exact(0), exact(1), exact(x)
	for _, a := range c {
		all = sum(all, product(exact(a), now))
		now, next = next, sum(product(exact(2*x), next), new(big.Float).Neg(now))
	}
	return all
}

func TestSpansHoldTheTrueValues(t *testing.T) {
	s := chance(14)
	values := []func(c []float64, x float64) *big.Float{trueByPowers, trueByChebyshevs}
	for i, f := range forms() {
		for _, c := range lists() {
			for _, a := range spans(&s, f.most) {
				held := over(t, f, c, a)
				for _, x := range []float64{a.Lo, a.Hi, within(&s, a), within(&s, a)} {
					if x != 0 && math.Abs(x) < 0x1p-60 { // its powers have too many digits
						continue
					}
					if y := values[i](c, x); exact(held.Lo).Cmp(y) > 0 || exact(held.Hi).Cmp(y) < 0 {
						t.Errorf("%sSpan(%v, %v): %v, but at %v it is %v", f.name, c, a, held, x, y.Text('g', 20))
					}
				}
			}
		}
	}
}

// The spans over one number are as narrow as a few roundings leave them.
func TestSpansAreNarrow(t *testing.T) {
	for _, f := range forms() {
		for _, c := range lists() {
			for _, x := range []float64{0, 0.1, -0.7, 1} {
				wide, err := span.Width(over(t, f, c, point(x)))
				most := sum(product(exact(0x1p-26), total(c, 1)), exact(0x1p-180))
				if err != api.OK || exact(wide).Cmp(most) > 0 {
					t.Errorf("%sSpan(%v, %v): wide %v, %v", f.name, c, x, wide, err)
				}
			}
		}
	}
}

// P6.4.

func TestMirrored(t *testing.T) {
	s := chance(15)
	for _, f := range forms() {
		for _, c := range lists() {
			mirror := make([]float64, len(c))
			for k, a := range c {
				mirror[k] = a
				if k%2 == 1 {
					mirror[k] = -a
				}
			}
			for _, x := range arguments(&s, f.most) {
				if y, z := number(t, f, c, x), number(t, f, mirror, -x); !same(y, z) {
					t.Errorf("%s(%v, %v): %v, mirrored: %v", f.name, c, x, y, z)
				}
			}
		}
	}
}

// P6.5.

// scaled: c times 2^k, if all of them stay coefficients.
func scaled(c []float64, k int) ([]float64, bool) {
	l := make([]float64, len(c))
	for i, a := range c {
		l[i] = math.Ldexp(a, k)
	}
	return l, poly.Check(l) == api.OK
}

func TestScaled(t *testing.T) {
	f := forms()[0]
	s := chance(16)
	tried := 0
	for _, c := range lists() {
		for k := -20; k <= 20; k++ {
			more, may := scaled(c, k)
			if !may {
				continue
			}
			tried++
			for _, x := range []float64{0, negZero, 0x1p-10, -0x1p-10, 0x1p10, 1.0 / 3, math.Ldexp(1+s.part(), s.below(20)-10), -math.Ldexp(1+s.part(), s.below(20)-10)} {
				if y, z := number(t, f, c, x), number(t, f, more, x); !same(math.Ldexp(y, k), z) {
					t.Errorf("Horner(%v, %v): %v, of 2^%d times as much: %v", c, x, y, k, z)
				}
			}
		}
	}
	if tried < 20000 {
		t.Errorf("only %d lists were scaled", tried)
	}
}
