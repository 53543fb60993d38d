package turn_test

import (
	"math"
	"math/big"
	"testing"

	"orrery/api"
	"orrery/grain"
	"orrery/span"
	"orrery/turn"
)

const (
	least    = 0x1p-200 // the least magnitude above 0 that is fit
	greatest = 0x1p40   // the greatest one of turns
)

var negZero = math.Copysign(0, -1)

func to(lo, hi float64) api.Span { return api.Span{Lo: lo, Hi: hi} }

func point(x float64) api.Span { return to(x, x) }

// same: the same number, noughts only with the same sign.
func same(a, b float64) bool { return math.Float64bits(a) == math.Float64bits(b) }

func sameSpan(a, b api.Span) bool { return same(a.Lo, b.Lo) && same(a.Hi, b.Hi) }

// A chance answers numbers that depend on nothing but how many were asked for ahead of them.
type chance uint64

func (c *chance) bits() uint64 {
	*c = *c*6364136223846793005 + 1442695040888963407
	return uint64(*c ^ *c>>29)
}

func (c *chance) below(n int) int { return int(c.bits() >> 11 % uint64(n)) }

// part: from 0 on, below 1.
func (c *chance) part() float64 { return float64(c.bits()>>11) / (1 << 53) }

// number: of a magnitude from 2^low on, below 2^high.
func (c *chance) number(low, high int) float64 {
	x := math.Ldexp(1+c.part(), low+c.below(high-low))
	if c.bits()>>63 == 1 {
		return -x
	}
	return x
}

// edges: noughts, the ends of what is taken, and multiples of an eighth (where the quarter changes) with their neighbours.
func edges() []float64 {
	l := []float64{negZero, 0, 100.5, -100.5}
	for _, x := range []float64{
		least, grain.Next(least), 0x1p-150, 0x1p-60, 0x1p-30, 0.1, 1.0 / 3, 1.0 / 12, 1e5, 12345.678,
		0x1p36 - 0x1p-4, 0x1p39 + 0.25, greatest - 0.125, greatest - 0.25, greatest - 0.375, grain.Prev(greatest), greatest,
	} {
		l = append(l, x, -x)
	}
	for _, far := range []float64{0, 1 << 10, -1 << 20, 1 << 39} {
		for i := range 33 {
			x := far + float64(i-16)/8
			for _, n := range []float64{x, grain.Next(x), grain.Prev(x)} {
				if grain.Fit(n) {
					l = append(l, n)
				}
			}
		}
	}
	return l
}

// numbers: the edges, and numbers of every power of two that is taken.
func numbers() []float64 {
	l := edges()
	c := chance(1)
	for power := -200; power < 40; power++ {
		for range 4 {
			l = append(l, c.number(power, power+1))
		}
	}
	for range 3000 {
		l = append(l, c.number(-8, 8), c.part()-0.5, float64(c.below(1<<20)-1<<19)/(1<<12))
	}
	return l
}

// spans: at the edges from each number to some others, and many beside them, of all widths.
func spans() []api.Span {
	var l []api.Span
	add := func(lo, hi float64) {
		lo, hi = min(lo, hi), max(lo, hi)
		if grain.Fit(hi) && math.Abs(hi) <= greatest {
			l = append(l, to(lo, hi))
		}
	}
	c := chance(2)
	e := edges()
	for _, x := range e {
		add(x, x)
		for range 8 {
			add(x, e[c.below(len(e))])
		}
		for _, wide := range []float64{0.125, 0.25, 0.5, 0.75, grain.Prev(0.75), grain.Prev(1), 1, grain.Next(1), 2} {
			add(x, x+wide)
		}
	}
	for range 5000 {
		x := c.number(-10, 12)
		add(x, x+float64(c.part()*1.1))
		add(x, x+math.Abs(c.number(-50, 1)))
	}
	return l
}

// The chapter's words once more, by exact numbers and by big's rounding.

// quarter: k mod 4, and the rest.
func quarter(t *testing.T, x float64) (int, float64) {
	t.Helper()
	y := new(big.Rat).SetFloat64(x)
	y.Mul(y, big.NewRat(4, 1))
	f := new(big.Int).Div(y.Num(), y.Denom()) // rounds down, the denominator being above 0
	g := new(big.Rat).Sub(y, new(big.Rat).SetInt(f))
	k := new(big.Int).Set(f)
	if side := g.Cmp(big.NewRat(1, 2)); side > 0 || side == 0 && f.Bit(0) == 1 {
		k.Add(k, big.NewInt(1))
	}
	rest := new(big.Rat).SetFloat64(x)
	rest.Sub(rest, new(big.Rat).SetFrac(k, big.NewInt(4)))
	r, exact := rest.Float64()
	if !exact || math.Abs(r) > 0.125 {
		t.Errorf("the rest of %v: %v", x, r)
	}
	return int(new(big.Int).Mod(k, big.NewInt(4)).Int64()), r
}

// factor: a(n).
func factor(n int) float64 {
	f := new(big.Rat).SetFrac(big.NewInt(1), new(big.Int).MulRange(1, int64(n)))
	a, _ := f.Float64()
	if n%4 == 2 || n%4 == 3 {
		return -a
	}
	return a
}

// plus and times: rounded to 53 bits, one by one.
func plus(x, y float64) float64 {
	s, _ := new(big.Float).SetPrec(53).Add(big.NewFloat(x), big.NewFloat(y)).Float64()
	return s
}

func times(x, y float64) float64 {
	p, _ := new(big.Float).SetPrec(53).Mul(big.NewFloat(x), big.NewFloat(y)).Float64()
	return p
}

func wantBoth(t *testing.T, x float64) (float64, float64) {
	k, r := quarter(t, x)
	y := times(r, 6.283185307179586)
	z := times(y, y)
	p := factor(17)
	for n := 15; n >= 3; n -= 2 {
		p = plus(factor(n), times(z, p))
	}
	s := plus(y, times(y, times(z, p)))
	q := factor(16)
	for n := 14; n >= 2; n -= 2 {
		q = plus(factor(n), times(z, q))
	}
	c := plus(1, times(z, q))
	s, c = [4]float64{s, c, -s, -c}[k], [4]float64{c, -s, -c, s}[k]
	return s + 0, c + 0 // +0 makes +0 of -0
}

// A sure is a span of which the call that made it told no error.
type sure struct {
	t *testing.T
	api.Span
}

func (a sure) of(s api.Span, err api.Errno) sure {
	a.t.Helper()
	if err != api.OK {
		a.t.Fatalf("of %v: %v", a.Span, err)
	}
	return sure{a.t, s}
}

func (a sure) add(b sure) sure { return a.of(span.Add(a.Span, b.Span)) }
func (a sure) mul(b sure) sure { return a.of(span.Mul(a.Span, b.Span)) }
func (a sure) neg() sure       { return a.of(span.Neg(a.Span)) }
func (a sure) square() sure    { return a.of(span.Square(a.Span)) }

func (a sure) meetCircle() api.Span {
	s, some, err := span.Meet(a.Span, to(-1, 1))
	if !some || err != api.OK {
		a.t.Fatalf("%v meets no sine: %v", a.Span, err)
	}
	return s
}

func wantSeries(z sure, h, l int) sure {
	p := sure{z.t, to(0, 0)}
	for n := h; n >= l; n -= 2 {
		a := sure{z.t, to(grain.Prev(factor(n)), grain.Next(factor(n)))}
		p = a.add(z.mul(p))
	}
	return p
}

func wantPoint(t *testing.T, x float64) (api.Span, api.Span) {
	k, r := quarter(t, x)
	y := sure{t, point(r)}.mul(sure{t, to(6.283185307179586, grain.Next(6.283185307179586))})
	z := y.square()
	s := y.add(y.mul(z.mul(wantSeries(z, 17, 3)))).add(sure{t, to(-0x1p-63, 0x1p-63)})
	c := sure{t, to(1, 1)}.add(z.mul(wantSeries(z, 16, 2))).add(sure{t, to(-0x1p-58, 0x1p-58)})
	switch k {
	case 1:
		s, c = c, s.neg()
	case 2:
		s, c = s.neg(), c.neg()
	case 3:
		s, c = c.neg(), s
	}
	return s.meetCircle(), c.meetCircle()
}

// wantSpans goes from one whole number of quarters to the next, where the span is less than a turn wide.
func wantSpans(t *testing.T, x api.Span) (api.Span, api.Span) {
	if wide, err := span.Width(x); err != api.OK || wide >= 1 {
		return to(-1, 1), to(-1, 1)
	}
	s1, c1 := wantPoint(t, x.Lo)
	s2, c2 := wantPoint(t, x.Hi)
	s, _ := span.Hull(s1, s2)
	c, _ := span.Hull(c1, c2)
	for n := math.Floor(4*x.Lo) - 1; n <= 4*x.Hi; n++ {
		if n < 4*x.Lo {
			continue
		}
		switch (int64(n)%4 + 4) % 4 {
		case 0:
			c.Hi = 1
		case 1:
			s.Hi = 1
		case 2:
			c.Lo = -1
		case 3:
			s.Lo = -1
		}
	}
	return s, c
}

// P5.1: numbers.

func checkBoth(t *testing.T, x, s, c float64) {
	t.Helper()
	if gotS, gotC, err := turn.Both(x); err != api.OK || !same(gotS, s) || !same(gotC, c) {
		t.Errorf("Both(%v): %v, %v, %v, want %v, %v", x, gotS, gotC, err, s, c)
	}
	if got, err := turn.Sin(x); err != api.OK || !same(got, s) {
		t.Errorf("Sin(%v): %v, %v, want %v", x, got, err, s)
	}
	if got, err := turn.Cos(x); err != api.OK || !same(got, c) {
		t.Errorf("Cos(%v): %v, %v, want %v", x, got, err, c)
	}
}

func TestExamplesOfNumbers(t *testing.T) {
	checkBoth(t, 0, 0, 1)
	checkBoth(t, negZero, 0, 1)
	checkBoth(t, 0.25, 1, 0)
	checkBoth(t, 100.5, 0, -1)
	checkBoth(t, -0.25, -1, 0)
	checkBoth(t, 0.125, 0.7071067811865475, 0.7071067811865476)
	if turn.Tau != 6.283185307179586 {
		t.Error("Tau")
	}
}

// Worked out beside the program, by another one.
func TestNumbersWorkedOut(t *testing.T) {
	checkBoth(t, 0.1, 0x1.2cf2304755a5ep-1, 0x1.9e3779b97f4a8p-1)
	checkBoth(t, 1.0/3, 0x1.bb67ae8584cabp-1, -0x1.ffffffffffffdp-2)
	checkBoth(t, 12345.678, -0x1.cc7ed85aa758p-1, -0x1.bf9b468956944p-2)
	checkBoth(t, -0.3, -0x1.e6f0e134455p-1, -0x1.3c6ef372fe94ep-2)
	checkBoth(t, 0.375, 0x1.6a09e667f3bccp-1, -0x1.6a09e667f3bcdp-1) // the tie goes to 2, the even one
	checkBoth(t, 0.625, -0x1.6a09e667f3bccp-1, -0x1.6a09e667f3bcdp-1)
	checkBoth(t, 0x1p40-0.125, -0x1.6a09e667f3bccp-1, 0x1.6a09e667f3bcdp-1)
	checkBoth(t, least, 0x1.921fb54442d18p-198, 1)
	checkBoth(t, greatest, 0, 1)
	checkBoth(t, -greatest, 0, 1)
}

func TestNumbersByTheChaptersWords(t *testing.T) {
	for _, x := range numbers() {
		s, c := wantBoth(t, x)
		checkBoth(t, x, s, c)
	}
}

// P5.1: spans.

func checkPoint(t *testing.T, x float64, s, c api.Span) {
	t.Helper()
	if gotS, gotC, err := turn.Point(x); err != api.OK || !sameSpan(gotS, s) || !sameSpan(gotC, c) {
		t.Errorf("Point(%v): %v, %v, %v, want %v, %v", x, gotS, gotC, err, s, c)
	}
}

func checkSpans(t *testing.T, x, s, c api.Span) {
	t.Helper()
	if gotS, gotC, err := turn.Spans(x); err != api.OK || !sameSpan(gotS, s) || !sameSpan(gotC, c) {
		t.Errorf("Spans(%v): %v, %v, %v, want %v, %v", x, gotS, gotC, err, s, c)
	}
}

func TestPointsWorkedOut(t *testing.T) {
	low, high := to(-0x1p-63, 0x1p-63), to(1-0x1p-53, 1)
	checkPoint(t, 0, low, high)
	checkPoint(t, negZero, low, high)
	checkPoint(t, 0.25, high, low)
	checkPoint(t, 100.5, low, to(-1, -1+0x1p-53))
	checkPoint(t, -0.25, to(-1, -1+0x1p-53), low)
	checkPoint(t, 0.1, to(0x1.2cf2304755a5cp-1, 0x1.2cf2304755a61p-1), to(0x1.9e3779b97f4a4p-1, 0x1.9e3779b97f4aap-1))
	checkPoint(t, 1.0/3, to(0x1.bb67ae8584ca9p-1, 0x1.bb67ae8584cadp-1), to(-0x1.0000000000001p-1, -0x1.ffffffffffffbp-2))
	checkPoint(t, -0.3, to(-0x1.e6f0e13445501p-1, -0x1.e6f0e134454fep-1), to(-0x1.3c6ef372fe951p-2, -0x1.3c6ef372fe94cp-2))
	checkPoint(t, 0.125, to(0x1.6a09e667f3bcap-1, 0x1.6a09e667f3bcfp-1), to(0x1.6a09e667f3bc9p-1, 0x1.6a09e667f3bcfp-1))
	checkPoint(t, 0.375, to(0x1.6a09e667f3bcap-1, 0x1.6a09e667f3bcfp-1), to(-0x1.6a09e667f3bcfp-1, -0x1.6a09e667f3bc9p-1))
	checkPoint(t, least, to(-0x1p-63, 0x1.0000000000001p-63), to(0x1.ffffffffffffep-1, 1))
}

func TestPointsByTheChaptersWords(t *testing.T) {
	for _, x := range numbers() {
		s, c := wantPoint(t, x)
		checkPoint(t, x, s, c)
	}
}

func TestSpansWorkedOut(t *testing.T) {
	low, all := to(-0x1p-63, 0x1p-63), to(-1, 1)
	checkSpans(t, to(0, 1), all, all)
	checkSpans(t, point(0), low, to(1-0x1p-53, 1))
	checkSpans(t, to(negZero, negZero), low, to(1-0x1p-53, 1))
	checkSpans(t, to(0.1, 0.3), to(0x1.2cf2304755a5cp-1, 1), to(-0x1.3c6ef372fe951p-2, 0x1.9e3779b97f4aap-1))
	checkSpans(t, to(0.2, 0.25), to(0x1.e6f0e134454fep-1, 1), to(-0x1p-63, 0x1.3c6ef372fe951p-2))
	checkSpans(t, to(-0.1, 0.1), to(-0x1.2cf2304755a61p-1, 0x1.2cf2304755a61p-1), to(0x1.9e3779b97f4a4p-1, 1))
	checkSpans(t, to(0.3, 0.8), to(-1, 0x1.e6f0e13445501p-1), to(-1, 0x1.3c6ef372fe957p-2))
	checkSpans(t, to(0.45, 0.5), to(-0x1p-63, 0x1.3c6ef372fe951p-2), to(-1, -0x1.e6f0e134454fep-1))
	checkSpans(t, to(grain.Next(0.125), grain.Next(0.125)+1-0x1p-52), all, all)
	checkSpans(t, to(-greatest, greatest), all, all)
	checkSpans(t, to(greatest-0.5, greatest), to(-1, 0x1p-63), all)
	checkSpans(t, to(-greatest, 0.5-greatest), to(-0x1p-63, 1), all)
}

func TestSpansByTheChaptersWords(t *testing.T) {
	for _, x := range spans() {
		s, c := wantSpans(t, x)
		checkSpans(t, x, s, c)
	}
}

// P5.1: errors, beside which all else is zero.

func unfit() []float64 {
	l := []float64{math.NaN(), math.Float64frombits(0xfff0000000000001), math.Float64frombits(0x7ff8000000000000)}
	for _, x := range []float64{math.Inf(1), math.MaxFloat64, 0x1p201, grain.Next(0x1p200), grain.Prev(least), 0x1p-201, 0x1p-1022, 0x1p-1074} {
		l = append(l, x, -x)
	}
	return l
}

func tooGreat() []float64 {
	var l []float64
	for _, x := range []float64{grain.Next(greatest), 0x1p41, 0x1p63, 0x1p64, 0x1p200} {
		l = append(l, x, -x)
	}
	return l
}

func TestErrorsOfNumbers(t *testing.T) {
	for _, x := range append(unfit(), tooGreat()...) {
		if s, c, err := turn.Both(x); err != api.ErrFit || !same(s, 0) || !same(c, 0) {
			t.Errorf("Both(%v): %v, %v, %v", x, s, c, err)
		}
		if s, err := turn.Sin(x); err != api.ErrFit || !same(s, 0) {
			t.Errorf("Sin(%v): %v, %v", x, s, err)
		}
		if c, err := turn.Cos(x); err != api.ErrFit || !same(c, 0) {
			t.Errorf("Cos(%v): %v, %v", x, c, err)
		}
		if s, c, err := turn.Point(x); err != api.ErrFit || !sameSpan(s, api.Span{}) || !sameSpan(c, api.Span{}) {
			t.Errorf("Point(%v): %v, %v, %v", x, s, c, err)
		}
	}
}

func refused(t *testing.T, x api.Span, want api.Errno) {
	t.Helper()
	if s, c, err := turn.Spans(x); err != want || !sameSpan(s, api.Span{}) || !sameSpan(c, api.Span{}) {
		t.Errorf("Spans(%v): %v, %v, %v, want %v", x, s, c, err, want)
	}
}

func TestErrorsOfSpans(t *testing.T) {
	for _, x := range unfit() {
		for _, y := range []float64{0, 1, -1, greatest, 0x1p200, -0x1p200, x} {
			refused(t, to(x, y), api.ErrFit)
			refused(t, to(y, x), api.ErrFit)
		}
	}
	for _, x := range tooGreat() {
		refused(t, point(x), api.ErrFit)
		refused(t, to(min(x, 0), max(x, 0)), api.ErrFit)
		refused(t, to(min(x, -x), max(x, -x)), api.ErrFit)
		refused(t, to(max(x, 0), min(x, 0)), api.ErrOrder) // told ahead of what is too great
		refused(t, to(max(x, -x), min(x, -x)), api.ErrOrder)
	}
	for _, x := range []api.Span{to(1, 0), to(0, -1), to(grain.Next(1), 1), to(least, 0), to(0, -least), to(greatest, -greatest)} {
		refused(t, x, api.ErrOrder)
	}
}
