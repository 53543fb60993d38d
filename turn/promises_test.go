package turn_test

import (
	"math"
	"math/big"
	"testing"

	"orrery/api"
	"orrery/span"
	"orrery/turn"
	"orrery/twain"
)

// precision: the bits of what is worked out about the true sines and cosines.
const precision = 500

func exact(x float64) *big.Float { return new(big.Float).SetPrec(precision).SetFloat64(x) }

func sum(x, y *big.Float) *big.Float { return new(big.Float).SetPrec(precision).Add(x, y) }

func product(x, y *big.Float) *big.Float { return new(big.Float).SetPrec(precision).Mul(x, y) }

// twoPi: to far more digits than any of binary64 has.
func twoPi(t *testing.T) *big.Float {
	p, _, err := big.ParseFloat("6.28318530717958647692528676655900576839433879875021164194988918461563281257241799725606965068423413596429617302656461329418768921910116446345", 10, precision, big.ToNearestEven)
	if err != nil {
		t.Fatal(err)
	}
	return p
}

// truth: the sine and the cosine of x turns, but for less than 2^-400. The whole turns are taken away first, then the series goes on until nothing is left of it.
func truth(t *testing.T, x float64) (*big.Float, *big.Float) {
	y := product(exact(x-math.Round(x)), twoPi(t)) // exact: the rest has no lower bits than x
	s, c, term := exact(0), exact(0), exact(1)
	for n := 0; n < 400 && (n < 8 || term.Sign() != 0 && term.MantExp(nil) > -450); n++ {
		part := product(term, exact([]float64{1, 1, -1, -1}[n%4]))
		if n%2 == 0 {
			c = sum(c, part)
		} else {
			s = sum(s, part)
		}
		term = product(term, y)
		term.Quo(term, exact(float64(n+1)))
	}
	return s, c
}

// holds: does x lie in a? It may lie outside by what truth leaves open.
func holds(a api.Span, x *big.Float) bool {
	open := exact(0x1p-380)
	return sum(exact(a.Lo), exact(-0x1p-380)).Cmp(x) <= 0 && x.Cmp(sum(exact(a.Hi), open)) <= 0
}

// near: does x lie in a, or within 2^-48 of it?
func near(a api.Span, x float64) bool {
	return sum(exact(a.Lo), exact(-0x1p-48)).Cmp(exact(x)) <= 0 && exact(x).Cmp(sum(exact(a.Hi), exact(0x1p-48))) <= 0
}

func both(t *testing.T, x float64) (float64, float64) {
	t.Helper()
	s, c, err := turn.Both(x)
	if err != api.OK {
		t.Fatalf("Both(%v): %v", x, err)
	}
	return s, c
}

func pointOf(t *testing.T, x float64) (api.Span, api.Span) {
	t.Helper()
	s, c, err := turn.Point(x)
	if err != api.OK {
		t.Fatalf("Point(%v): %v", x, err)
	}
	return s, c
}

func meet(t *testing.T, a, b api.Span) bool {
	t.Helper()
	_, some, err := span.Meet(a, b)
	if err != api.OK {
		t.Fatalf("Meet(%v, %v): %v", a, b, err)
	}
	return some
}

// P5.2.

func TestTurnedTheOtherWay(t *testing.T) {
	for _, x := range numbers() {
		s, c := both(t, x)
		minusS, minusC := both(t, -x)
		if !same(minusS, -s+0) || !same(minusC, c) { // +0 makes +0 of -0
			t.Errorf("Both(%v): %v, %v; of its negative: %v, %v", x, s, c, minusS, minusC)
		}
	}
}

func TestAWholeTurnMore(t *testing.T) {
	tried := 0
	for _, x := range numbers() {
		more, rest, err := twain.Sum(x, 1)
		if err != api.OK || rest != 0 || math.Abs(more) > greatest {
			continue
		}
		tried++
		s, c := both(t, x)
		moreS, moreC := both(t, more)
		if !same(moreS, s) || !same(moreC, c) {
			t.Errorf("Both(%v): %v, %v; a turn more: %v, %v", x, s, c, moreS, moreC)
		}
	}
	if tried < 1000 {
		t.Errorf("only %d numbers have an exact one a turn more", tried)
	}
}

// P5.3.

func TestOnTheCircle(t *testing.T) {
	for _, x := range numbers() {
		s, c := both(t, x)
		off := sum(sum(product(exact(s), exact(s)), product(exact(c), exact(c))), exact(-1))
		if off.Abs(off).Cmp(exact(0x1p-48)) > 0 {
			t.Errorf("Both(%v): %v, %v lies off the circle", x, s, c)
		}
	}
}

// P5.4.

func TestPointHoldsTheTrueOnes(t *testing.T) {
	for _, x := range numbers() {
		trueS, trueC := truth(t, x)
		s, c := pointOf(t, x)
		if !holds(s, trueS) || !holds(c, trueC) {
			t.Errorf("Point(%v): %v, %v, but the true ones are %v, %v", x, s, c, trueS, trueC)
		}
		nearS, nearC := both(t, x)
		if !near(s, nearS) || !near(c, nearC) {
			t.Errorf("Point(%v): %v, %v, but Both: %v, %v", x, s, c, nearS, nearC)
		}
	}
}

func TestPointsAreNarrow(t *testing.T) {
	for _, x := range numbers() {
		s, c := pointOf(t, x)
		for _, a := range []api.Span{s, c} {
			if wide, err := span.Width(a); err != api.OK || wide > 0x1p-48 || a.Lo < -1 || a.Hi > 1 {
				t.Errorf("Point(%v): %v, %v", x, s, c)
			}
		}
	}
}

func TestSumOfSquaresHoldsOne(t *testing.T) {
	for _, x := range numbers() {
		s, c := pointOf(t, x)
		ss, _ := span.Square(s)
		cc, _ := span.Square(c)
		if one, err := span.Add(ss, cc); err != api.OK || !span.Has(one, 1) {
			t.Errorf("Point(%v): %v, %v, the squares come to %v", x, s, c, one)
		}
	}
}

// inside: numbers of x: its ends, and turns in it where sines and cosines are greatest or least, and others; only fit ones.
func inside(c *chance, x api.Span) []float64 {
	l := []float64{x.Lo, x.Hi}
	first := math.Ceil(4 * x.Lo)
	for i := range 5 {
		l = append(l, (first+float64(i))/4)
	}
	for range 3 {
		l = append(l, x.Lo+float64(c.part()*(x.Hi-x.Lo)))
	}
	var in []float64
	for _, n := range l {
		if span.Has(x, n) && span.Has(point(n), n) {
			in = append(in, n)
		}
	}
	return in
}

func TestSpansHoldAllOfThem(t *testing.T) {
	c := chance(3)
	for i, x := range spans() {
		s, d, err := turn.Spans(x)
		if err != api.OK {
			t.Fatalf("Spans(%v): %v", x, err)
		}
		for _, n := range inside(&c, x) {
			nearS, nearC := both(t, n)
			if !near(s, nearS) || !near(d, nearC) {
				t.Errorf("Spans(%v): %v, %v, but Both(%v): %v, %v", x, s, d, n, nearS, nearC)
			}
			pointS, pointC := pointOf(t, n)
			if !meet(t, s, pointS) || !meet(t, d, pointC) {
				t.Errorf("Spans(%v): %v, %v, but Point(%v): %v, %v", x, s, d, n, pointS, pointC)
			}
			if i%16 != 0 { // what is true takes long to find
				continue
			}
			if trueS, trueC := truth(t, n); !holds(s, trueS) || !holds(d, trueC) {
				t.Errorf("Spans(%v): %v, %v, but of %v the true ones are %v, %v", x, s, d, n, trueS, trueC)
			}
		}
	}
}

// P5.5.

func TestTwice(t *testing.T) {
	for _, x := range numbers() {
		if math.Abs(x) > greatest/2 {
			continue
		}
		s, c := pointOf(t, x)
		half, _ := span.Mul(s, c)
		byHalf, err := span.Add(half, half)
		if err != api.OK {
			t.Fatalf("of %v and %v: %v", s, c, err)
		}
		if twice, _ := pointOf(t, 2*x); !meet(t, twice, byHalf) {
			t.Errorf("Point(%v): %v, but by the half: %v", 2*x, twice, byHalf)
		}
	}
}
