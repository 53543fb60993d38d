package poly_test

import (
	"math"
	"math/big"
	"slices"
	"testing"

	"orrery/api"
	"orrery/grain"
	"orrery/poly"
	"orrery/span"
)

const (
	least    = 0x1p-200 // the least magnitude above 0 that is fit
	greatest = 0x1p40   // the greatest one of a coefficient
)

var negZero = math.Copysign(0, -1)

func to(lo, hi float64) api.Span { return api.Span{Lo: lo, Hi: hi} }

func point(x float64) api.Span { return to(x, x) }

// same: the same number, noughts only with the same sign.
func same(a, b float64) bool { return math.Float64bits(a) == math.Float64bits(b) }

func sameSpan(a, b api.Span) bool { return same(a.Lo, b.Lo) && same(a.Hi, b.Hi) }

func sameList(a, b []float64) bool { return slices.EqualFunc(a, b, same) }

// A form is one of the two ways in which polynomials are told: its calls, the greatest magnitude of x, and what each call is to answer by the chapter's words.
type form struct {
	name     string
	most     float64
	call     func(c []float64, x float64) (float64, api.Errno)
	over     func(c []float64, x api.Span) (api.Span, api.Errno)
	want     func(c []float64, x float64) float64
	wantOver func(t *testing.T, c []float64, x api.Span) api.Span
}

func forms() []form {
	return []form{
		{"Horner", 0x1p10, poly.Horner, poly.HornerSpan, wantHorner, wantHornerSpan},
		{"Cheb", 1, poly.Cheb, poly.ChebSpan, wantCheb, wantChebSpan},
	}
}

// A chance answers numbers that depend on nothing but how many were asked for ahead of them.
type chance uint64

func (c *chance) bits() uint64 {
	*c = *c*6364136223846793005 + 1442695040888963407
	return uint64(*c ^ *c>>29)
}

func (c *chance) below(n int) int { return int(c.bits() >> 11 % uint64(n)) }

// part: from 0 on, below 1.
func (c *chance) part() float64 { return float64(c.bits()>>11) / (1 << 53) }

// number: of a magnitude from 2^low on, below 2^high.
func (c *chance) number(low, high int) float64 {
	x := math.Ldexp(1+c.part(), low+c.below(high-low))
	if c.below(3) == 0 { // few digits, so that results may be exact
		x = math.Ldexp(float64(4+c.below(4)), low-2+c.below(high-low))
	}
	if c.below(2) == 0 {
		return -x
	}
	return x
}

// list: n coefficients, near each other or not, with noughts among them.
func (c *chance) list(n int) []float64 {
	low, high := -200, 40
	if c.below(3) > 0 {
		low = -4 - c.below(100)
		high = low + 1 + c.below(6)
	}
	l := make([]float64, n)
	for i := range n {
		switch c.below(8) {
		case 0:
			l[i] = []float64{0, negZero}[c.below(2)]
		case 1:
			l[i] = l[c.below(i+1)]
		default:
			l[i] = c.number(low, high)
		}
	}
	return l
}

// argument: a number of at most this magnitude.
func (c *chance) argument(most float64) float64 {
	switch c.below(4) {
	case 0:
		return c.number(-200, 0)
	case 1:
		return []float64{0, negZero, most, -most, most / 2, -1, 1, 1.0 / 3, -0.1, least}[c.below(10)]
	}
	return most * (2*c.part() - 1)
}

// span: one whose numbers are of at most this magnitude: wide, narrow, or of one number.
func (c *chance) span(most float64) api.Span {
	x := c.argument(most)
	switch c.below(4) {
	case 0:
		return point(x)
	case 1:
		for range c.below(4) {
			if y := grain.Next(x); x != 0 && grain.Fit(y) && y <= most {
				return to(x, y)
			}
		}
		return point(x)
	}
	y := c.argument(most)
	return to(min(x, y), max(x, y))
}

// edges: coefficients at the ends of what is taken: of every length, all the same, noughts of either sign, with signs that take turns.
func edges() [][]float64 {
	l := [][]float64{nil, {}}
	for n := 1; n <= api.MaxTerms; n++ {
		for _, x := range []float64{0, negZero, least, 1, 0.1, grain.Prev(greatest), greatest} {
			all, turns, last := make([]float64, n), make([]float64, n), make([]float64, n)
			for i := range n {
				all[i], turns[i] = x, x
				if i%2 == 1 {
					turns[i] = -x
				}
			}
			last[n-1] = -x
			l = append(l, all, turns, last)
		}
	}
	return l
}

// lists: the edges, and many of all lengths.
func lists() [][]float64 {
	l := edges()
	c := chance(1)
	for range 150 {
		for n := range api.MaxTerms + 1 {
			l = append(l, c.list(n))
		}
	}
	return l
}

// arguments: the ends of what is taken, noughts, the least ones, and others.
func arguments(c *chance, most float64) []float64 {
	l := []float64{0, negZero, least, -least, grain.Prev(most), most, -most, grain.Next(-most), 0.5, -0.1, 1.0 / 3}
	for range 6 {
		l = append(l, c.argument(most))
	}
	return l
}

// spans: likewise.
func spans(c *chance, most float64) []api.Span {
	l := []api.Span{{}, to(negZero, negZero), to(0, negZero), to(-most, most), to(0, most), to(-most, 0), to(-least, least), point(most), to(-0.25, 0.125)}
	for range 6 {
		l = append(l, c.span(most))
	}
	return l
}

// The chapter's words once more, by big's numbers: wide enough for any sum or product of two numbers, then rounded once, to subnormals too.

func exact(x float64) *big.Float { return new(big.Float).SetPrec(4000).SetFloat64(x) }

func plus(x, y float64) float64 {
	s, _ := new(big.Float).SetPrec(4000).Add(exact(x), exact(y)).Float64()
	return s
}

func times(x, y float64) float64 {
	p, _ := new(big.Float).SetPrec(4000).Mul(exact(x), exact(y)).Float64()
	return p
}

func wantHorner(c []float64, x float64) float64 {
	p := 0.0
	for k := len(c) - 1; k >= 0; k-- {
		p = plus(c[k], times(x, p))
	}
	return p + 0 // +0 makes +0 of -0
}

func wantCheb(c []float64, x float64) float64 {
	if len(c) == 0 {
		return 0
	}
	b, d := 0.0, 0.0
	for k := len(c) - 1; k >= 1; k-- {
		n := plus(plus(times(plus(x, x), b), -d), c[k])
		d = b
		b = n
	}
	return plus(plus(times(x, b), -d), c[0]) + 0
}

// A sure is a span of which the call that made it told no error.
type sure struct {
	t *testing.T
	api.Span
}

func (a sure) of(s api.Span, err api.Errno) sure {
	a.t.Helper()
	if err != api.OK {
		a.t.Fatalf("of %v: %v", a.Span, err)
	}
	return sure{a.t, s}
}

func (a sure) add(b sure) sure { return a.of(span.Add(a.Span, b.Span)) }
func (a sure) sub(b sure) sure { return a.of(span.Sub(a.Span, b.Span)) }
func (a sure) mul(b sure) sure { return a.of(span.Mul(a.Span, b.Span)) }

func wantHornerSpan(t *testing.T, c []float64, at api.Span) api.Span {
	x, p := sure{t, at}, sure{t, to(0, 0)}
	for k := len(c) - 1; k >= 0; k-- {
		p = sure{t, point(c[k])}.add(x.mul(p))
	}
	return p.Span
}

func wantChebSpan(t *testing.T, c []float64, at api.Span) api.Span {
	if len(c) == 0 {
		return to(0, 0)
	}
	x, b, d := sure{t, at}, sure{t, to(0, 0)}, sure{t, to(0, 0)}
	w := x.add(x)
	for k := len(c) - 1; k >= 1; k-- {
		n := w.mul(b).sub(d).add(sure{t, point(c[k])})
		d = b
		b = n
	}
	return x.mul(b).sub(d).add(sure{t, point(c[0])}).Span
}

// P6.1: what is taken.

func checkNumber(t *testing.T, f form, c []float64, x, want float64) {
	t.Helper()
	if got, err := f.call(c, x); err != api.OK || !same(got, want) {
		t.Errorf("%s(%v, %v): %v, %v, want %v", f.name, c, x, got, err, want)
	}
}

func checkSpan(t *testing.T, f form, c []float64, x, want api.Span) {
	t.Helper()
	if got, err := f.over(c, x); err != api.OK || !sameSpan(got, want) {
		t.Errorf("%sSpan(%v, %v): %v, %v, want %v", f.name, c, x, got, err, want)
	}
}

func TestNumbersByTheChaptersWords(t *testing.T) {
	s := chance(2)
	for _, f := range forms() {
		for _, c := range lists() {
			for _, x := range arguments(&s, f.most) {
				checkNumber(t, f, c, x, f.want(c, x))
			}
		}
	}
}

func TestSpansByTheChaptersWords(t *testing.T) {
	s := chance(3)
	for _, f := range forms() {
		for _, c := range lists() {
			for _, x := range spans(&s, f.most) {
				checkSpan(t, f, c, x, f.wantOver(t, c, x))
			}
		}
	}
}

// Worked out beside the program, by hand or by another one.
func TestNumbersWorkedOut(t *testing.T) {
	horner, cheb := forms()[0], forms()[1]
	tenths := []float64{0.1, 0.2, 0.3, 0.4, 0.5, 0.6}
	checkNumber(t, horner, tenths, 0.7, 0x1.7d7cb2d905c02p-1)
	checkNumber(t, horner, tenths, -1.9, -0x1.48ff21b3aeee8p+3)
	checkNumber(t, cheb, tenths, 0.7, -0x1.eb2d0a2446307p-1)
	checkNumber(t, cheb, tenths, -0.3, -0x1.43b70ef566490p-2)
	checkNumber(t, horner, []float64{0, 0, least}, least, 0x1p-600) // unfit answers are told as they are
	checkNumber(t, horner, []float64{0, 0, 0, 0, 0, -least}, least, 0)
	checkNumber(t, horner, []float64{-0x1p20, 0, 1}, 0x1p10, 0)
	checkNumber(t, horner, []float64{negZero}, -1, 0)
	checkNumber(t, cheb, []float64{negZero}, -1, 0)
	checkNumber(t, cheb, []float64{0.5, -1, 0, 0, 0, 0.5}, 1, 0)
}

func wantSlope(c []float64) []float64 {
	var s []float64
	for k := 1; k < len(c); k++ {
		s = append(s, times(float64(k), c[k])+0)
	}
	return s
}

func TestSlope(t *testing.T) {
	for _, c := range lists() {
		if got, err := poly.Slope(c); err != api.OK || !sameList(got, wantSlope(c)) {
			t.Errorf("Slope(%v): %v, %v", c, got, err)
		}
	}
	for _, c := range []struct{ c, want []float64 }{
		{nil, nil}, {[]float64{7}, nil}, {[]float64{5, negZero}, []float64{0}}, {[]float64{1, 0.1, 0.1, 0.1}, []float64{0.1, 0.2, 0.30000000000000004}},
		{[]float64{3: greatest}, []float64{0, 0, 0x3p40}}, {[]float64{15: -greatest}, []float64{14: -0xfp40}}, // above the greatest coefficient
	} {
		if got, err := poly.Slope(c.c); err != api.OK || !sameList(got, c.want) {
			t.Errorf("Slope(%v): %v, %v", c.c, got, err)
		}
	}
}

// P6.1: what is refused, in its order.

// unfit: numbers that are no number of anything.
func unfit() []float64 {
	var l []float64
	for _, x := range []float64{math.NaN(), math.Float64frombits(0x7ff0000000000001), math.Inf(1), math.MaxFloat64, 0x1p201, grain.Next(0x1p200), grain.Prev(least), 0x1p-201, 0x1p-1022, 0x1p-1074} {
		l = append(l, x, math.Copysign(x, -1))
	}
	return l
}

// above: numbers whose magnitude is above most, and such that aren't fit.
func above(most float64) []float64 {
	return append(unfit(), grain.Next(most), -grain.Next(most), 2*most, -2*most, 0x1p200, -0x1p200)
}

// badLists: what are no coefficients, and the error of each.
func badLists() map[api.Errno][][]float64 {
	long := [][]float64{make([]float64, api.MaxTerms+1), make([]float64, 4*api.MaxTerms), {0: math.NaN(), api.MaxTerms: 1}, {api.MaxTerms: greatest * 2}}
	var fit [][]float64
	for _, x := range above(greatest) {
		for _, n := range []int{1, 2, 5, api.MaxTerms} {
			for _, at := range []int{0, n / 2, n - 1} {
				l := make([]float64, n)
				l[at] = x
				fit = append(fit, l)
			}
		}
	}
	return map[api.Errno][][]float64{api.ErrLong: long, api.ErrFit: fit}
}

func refused(t *testing.T, f form, c []float64, x float64, want api.Errno) {
	t.Helper()
	if got, err := f.call(c, x); err != want || !same(got, 0) {
		t.Errorf("%s(%v, %v): %v, %v, want %v", f.name, c, x, got, err, want)
	}
}

func refusedOver(t *testing.T, f form, c []float64, x api.Span, want api.Errno) {
	t.Helper()
	if got, err := f.over(c, x); err != want || !sameSpan(got, api.Span{}) {
		t.Errorf("%sSpan(%v, %v): %v, %v, want %v", f.name, c, x, got, err, want)
	}
}

func TestCheck(t *testing.T) {
	for _, c := range lists() {
		if err := poly.Check(c); err != api.OK {
			t.Errorf("Check(%v): %v", c, err)
		}
	}
	for want, l := range badLists() {
		for _, c := range l {
			if err := poly.Check(c); err != want {
				t.Errorf("Check(%v): %v, want %v", c, err, want)
			}
		}
	}
}

func TestBadCoefficients(t *testing.T) {
	for want, l := range badLists() {
		for _, c := range l {
			if got, err := poly.Slope(c); err != want || len(got) != 0 {
				t.Errorf("Slope(%v): %v, %v, want %v", c, got, err, want)
			}
			for _, f := range forms() {
				refused(t, f, c, 0.5, want)
				refused(t, f, c, math.NaN(), want)
				refusedOver(t, f, c, to(0, 1), want)
				refusedOver(t, f, c, to(1, 0), want) // the coefficients come ahead of x
				refusedOver(t, f, c, point(math.Inf(1)), want)
			}
		}
	}
}

func TestBadNumbers(t *testing.T) {
	for _, f := range forms() {
		for _, x := range above(f.most) {
			for _, c := range [][]float64{nil, {0}, {1}, {1, 2, 3}, make([]float64, api.MaxTerms)} {
				refused(t, f, c, x, api.ErrFit)
				refusedOver(t, f, c, point(x), api.ErrFit)
			}
		}
	}
}

func TestBadSpans(t *testing.T) {
	for _, f := range forms() {
		for _, c := range [][]float64{nil, {0}, {1}, {1, 2, 3}} {
			for _, x := range unfit() {
				refusedOver(t, f, c, to(x, -1), api.ErrFit) // ahead of the order
				refusedOver(t, f, c, to(1, x), api.ErrFit)
			}
			for _, x := range []api.Span{to(1, 0), to(0, -1), to(least, 0), to(0, -least), to(grain.Next(0.5), 0.5), to(f.most, -f.most)} {
				refusedOver(t, f, c, x, api.ErrOrder)
			}
			for _, x := range []api.Span{to(2*f.most, f.most), to(f.most, -2*f.most), to(4*f.most, 2*f.most), to(0x1p200, -0x1p200)} {
				refusedOver(t, f, c, x, api.ErrOrder) // ahead of the magnitude
			}
			over := grain.Next(f.most)
			for _, x := range []api.Span{to(0, over), to(-over, 0), to(-over, over), to(f.most, over), to(-0x1p200, 0x1p200)} {
				refusedOver(t, f, c, x, api.ErrFit)
			}
		}
	}
}

func TestExamples(t *testing.T) {
	horner, cheb := forms()[0], forms()[1]
	c := []float64{1, 2, 3}
	checkNumber(t, horner, c, 2, 17)
	checkNumber(t, cheb, c, 0.5, 0.5)
	checkSpan(t, horner, c, to(0, 2), to(1, 17))
	checkNumber(t, horner, nil, 5, 0)
	refused(t, cheb, []float64{1}, 2, api.ErrFit)
	refused(t, horner, make([]float64, 17), 0, api.ErrLong)
	if s, err := poly.Slope(c); err != api.OK || !sameList(s, []float64{2, 6}) {
		t.Errorf("Slope(%v): %v, %v", c, s, err)
	}
}

// Of no coefficients the value is 0, wherever x may be.
func TestOfNone(t *testing.T) {
	s := chance(4)
	for _, f := range forms() {
		for _, x := range arguments(&s, f.most) {
			checkNumber(t, f, nil, x, 0)
			checkNumber(t, f, []float64{}, x, 0)
		}
		for _, x := range spans(&s, f.most) {
			checkSpan(t, f, nil, x, to(0, 0))
		}
	}
}

// The rules: what is handed in is neither changed nor kept, its spare room neither.

func TestHandedInStays(t *testing.T) {
	whole := make([]float64, api.MaxTerms)
	s := chance(5)
	for i := range whole {
		whole[i] = s.number(-3, 3)
	}
	before := slices.Clone(whole)
	c := whole[:5]
	for _, f := range forms() {
		f.call(c, 0.7)
		f.over(c, to(-0.5, 0.7))
	}
	poly.Check(c)
	slope, _ := poly.Slope(c)
	want := slices.Clone(slope)
	for i := range cap(slope) {
		slope[:cap(slope)][i] = math.NaN()
	}
	if !sameList(whole, before) {
		t.Errorf("coefficients are changed: %v, were %v", whole, before)
	}
	if again, _ := poly.Slope(c); !sameList(again, want) {
		t.Errorf("Slope(%v): %v, then %v", c, want, again)
	}
}

// P1: each call answers, whatever the bits, and nothing beside an error; what it answers is a span.

func TestAnyBits(t *testing.T) {
	s := chance(6)
	anyNumber := func() float64 {
		if s.below(20) == 0 {
			return math.Float64frombits(s.bits())
		}
		return s.argument(1)
	}
	for range 30000 {
		c := make([]float64, s.below(api.MaxTerms+3))
		for i := range c {
			c[i] = anyNumber()
		}
		if l, err := poly.Slope(c); err != poly.Check(c) || err != api.OK && len(l) != 0 {
			t.Errorf("Slope(%v): %v, %v", c, l, err)
		}
		for _, f := range forms() {
			x := to(anyNumber(), anyNumber())
			if y, err := f.call(c, x.Lo); err != api.OK && !same(y, 0) || math.IsNaN(y) || math.IsInf(y, 0) {
				t.Errorf("%s(%v, %v): %v, %v", f.name, c, x.Lo, y, err)
			}
			if y, err := f.over(c, x); err != api.OK && !sameSpan(y, api.Span{}) || span.Check(y) != api.OK {
				t.Errorf("%sSpan(%v, %v): %v, %v", f.name, c, x, y, err)
			}
		}
	}
}
