package span_test

import (
	"math"
	"math/big"
	"slices"
	"testing"

	"orrery/api"
	"orrery/grain"
	"orrery/span"
)

const (
	least    = 0x1p-200 // the least magnitude above 0 that is fit
	greatest = 0x1p200  // the greatest one
)

var negZero = math.Copysign(0, -1)

func to(lo, hi float64) api.Span { return api.Span{Lo: lo, Hi: hi} }

func point(x float64) api.Span { return to(x, x) }

// same: the same span, noughts only with the same sign.
func same(a, b api.Span) bool {
	return math.Float64bits(a.Lo) == math.Float64bits(b.Lo) && math.Float64bits(a.Hi) == math.Float64bits(b.Hi)
}

// A one is a call that takes one span, a two one that takes two; and what each is to answer for spans that may be.
type one struct {
	name string
	call func(a api.Span) (api.Span, api.Errno)
	want func(a api.Span) (api.Span, api.Errno)
}

type two struct {
	name string
	call func(a, b api.Span) (api.Span, api.Errno)
	want func(a, b api.Span) (api.Span, api.Errno)
}

func ones() []one {
	return []one{{"Neg", span.Neg, wantNeg}, {"Square", span.Square, wantSquare}, {"Root", span.Root, wantRoot}}
}

func twos() []two {
	return []two{{"Add", span.Add, wantAdd}, {"Sub", span.Sub, wantSub}, {"Mul", span.Mul, wantMul}, {"Div", span.Div, wantDiv}, {"Hull", span.Hull, wantHull}}
}

// exact: x as a number of mathematics; sums and products of two fit numbers have room in it.
func exact(x float64) *big.Float { return new(big.Float).SetPrec(1200).SetFloat64(x) }

// An operation is one of big's, which rounds as the number says to which it is put.
type operation func(z, x, y *big.Float) *big.Float

// ends: what an operation gives for x and y, rounded down and rounded up.
func ends(f operation, x, y float64) api.Span {
	lo, _ := f(new(big.Float).SetPrec(53).SetMode(big.ToNegativeInf), exact(x), exact(y)).Float64()
	hi, _ := f(new(big.Float).SetPrec(53).SetMode(big.ToPositiveInf), exact(x), exact(y)).Float64()
	return to(lo, hi)
}

// rootEnds: the root of x, rounded down and rounded up, found by squares.
func rootEnds(x float64) api.Span {
	square := func(s float64) *big.Float { return new(big.Float).Mul(exact(s), exact(s)) }
	s := math.Sqrt(x)
	for square(s).Cmp(exact(x)) > 0 {
		s = grain.Prev(s)
	}
	for square(grain.Next(s)).Cmp(exact(x)) <= 0 {
		s = grain.Next(s)
	}
	if square(s).Cmp(exact(x)) == 0 {
		return point(s)
	}
	return to(s, grain.Next(s))
}

// finished: the last step of 'outwards', as the chapter words it.
func finished(lo, hi float64) (api.Span, api.Errno) {
	if 0 < lo && lo < least {
		lo = 0
	} else if -least < lo && lo < 0 {
		lo = -least
	}
	if -least < hi && hi < 0 {
		hi = 0
	} else if 0 < hi && hi < least {
		hi = least
	}
	if math.Abs(lo) > greatest || math.Abs(hi) > greatest {
		return api.Span{}, api.ErrFit
	}
	return to(lo+0, hi+0), api.OK
}

// overall: from the least to the greatest of the ends, outwards.
func overall(l ...api.Span) (api.Span, api.Errno) {
	s := l[0]
	for _, e := range l {
		s = to(math.Min(s.Lo, e.Lo), math.Max(s.Hi, e.Hi))
	}
	return finished(s.Lo, s.Hi)
}

// atCorners: the ends of what an operation gives for the ends of two spans.
func atCorners(f operation, a, b api.Span) (api.Span, api.Errno) {
	return overall(ends(f, a.Lo, b.Lo), ends(f, a.Lo, b.Hi), ends(f, a.Hi, b.Lo), ends(f, a.Hi, b.Hi))
}

func wantNeg(a api.Span) (api.Span, api.Errno) { return finished(-a.Hi, -a.Lo) }

func wantAdd(a, b api.Span) (api.Span, api.Errno) { return atCorners((*big.Float).Add, a, b) }

func wantSub(a, b api.Span) (api.Span, api.Errno) { return atCorners((*big.Float).Sub, a, b) }

func wantMul(a, b api.Span) (api.Span, api.Errno) { return atCorners((*big.Float).Mul, a, b) }

func wantDiv(a, b api.Span) (api.Span, api.Errno) {
	if b.Lo <= 0 && 0 <= b.Hi {
		return api.Span{}, api.ErrZero
	}
	return atCorners((*big.Float).Quo, a, b)
}

func wantSquare(a api.Span) (api.Span, api.Errno) {
	l := []api.Span{ends((*big.Float).Mul, a.Lo, a.Lo), ends((*big.Float).Mul, a.Hi, a.Hi)}
	if a.Lo <= 0 && 0 <= a.Hi {
		l = append(l, to(0, 0))
	}
	return overall(l...)
}

func wantRoot(a api.Span) (api.Span, api.Errno) {
	if a.Lo < 0 {
		return api.Span{}, api.ErrSign
	}
	return overall(rootEnds(a.Lo), rootEnds(a.Hi))
}

func wantHull(a, b api.Span) (api.Span, api.Errno) { return overall(a, b) }

// A chance answers numbers that depend on nothing but how many were asked for ahead of them.
type chance uint64

func (c *chance) bits() uint64 {
	*c = *c*6364136223846793005 + 1442695040888963407
	return uint64(*c ^ *c>>29)
}

func (c *chance) below(n int) int { return int(c.bits() >> 11 % uint64(n)) }

// number: a fit one, of a power of two within so many of 0.
func (c *chance) number(powers int) float64 {
	fraction := c.bits() >> 12
	if c.below(3) == 0 { // few digits, so that results may be exact
		fraction &= 0x7 << 49
	}
	return math.Float64frombits(c.bits()>>63<<63 | uint64(1023-powers+c.below(2*powers))<<52 | fraction)
}

// risen: n fit numbers from the least on: far from each other, or neighbours, or the same, with noughts among them.
func (c *chance) risen(n int) []float64 {
	powers := []int{1, 3, 60, 101, 200}[c.below(5)]
	x := c.number(powers)
	var l []float64
	for range n {
		switch c.below(6) {
		case 0:
			x = grain.Next(x)
			if !grain.Fit(x) {
				x = greatest
			}
		case 1:
			x = 0
		case 2, 3, 4:
			x = c.number(powers)
		}
		l = append(l, x)
	}
	slices.Sort(l)
	return l
}

func (c *chance) span() api.Span {
	l := c.risen(2)
	return to(l[0], l[1])
}

// within: a number of the span, which may be unfit.
func (c *chance) within(a api.Span) float64 {
	part := float64(c.below(1<<20)) / (1 << 20)
	return min(max(a.Lo+float64(part*(a.Hi-a.Lo)), a.Lo), a.Hi)
}

// numbers: fit ones at the ends of what is fit, in its middle, and such whose products and quotients come near those ends.
func numbers() []float64 {
	l := []float64{negZero, 0}
	for _, x := range []float64{least, grain.Next(least), 0x1p-150, 0x1p-100, grain.Prev(0x1p-100), 1.0 / 3, 1, grain.Next(1), 3, 10, 0x1p53, 0x1p100, grain.Next(0x1p100), greatest / 2, grain.Prev(greatest), greatest} {
		l = append(l, x, -x)
	}
	return l
}

// spans: all from one of the numbers to another, and many beside them.
func spans() []api.Span {
	var l []api.Span
	for _, lo := range numbers() {
		for _, hi := range numbers() {
			if lo <= hi {
				l = append(l, to(lo, hi))
			}
		}
	}
	c := chance(1)
	for range 3000 {
		l = append(l, c.span())
	}
	return l
}

// pairs calls f for many pairs of spans.
func pairs(f func(a, b api.Span)) {
	l := spans()
	c := chance(2)
	for _, a := range l {
		for range 12 {
			f(a, l[c.below(len(l))])
		}
		f(a, a)
		f(a, point(c.number(100)))
		f(a, c.span())
	}
	for range 20000 {
		f(c.span(), c.span())
	}
}

// points calls f for many pairs of point spans.
func points(f func(a, b api.Span)) {
	for _, x := range numbers() {
		for _, y := range numbers() {
			f(point(x), point(y))
		}
	}
	c := chance(3)
	for range 30000 {
		l := c.risen(2)
		if c.below(2) == 0 {
			l[0], l[1] = l[1], l[0]
		}
		f(point(l[0]), point(l[1]))
	}
}

// bad: what is no span, and the error of each.
type bad struct {
	s   api.Span
	err api.Errno
}

func bads() []bad {
	l := []bad{
		{to(2, 1), api.ErrOrder}, {to(1, -1), api.ErrOrder}, {to(0, -1), api.ErrOrder}, {to(grain.Next(1), 1), api.ErrOrder},
		{to(least, 0), api.ErrOrder}, {to(negZero, -least), api.ErrOrder}, {to(greatest, -greatest), api.ErrOrder}, {to(greatest, least), api.ErrOrder},
	}
	for _, x := range []float64{
		math.NaN(), math.Float64frombits(0xfff0000000000001), math.Inf(1), math.MaxFloat64, 0x1p201, grain.Next(greatest),
		grain.Prev(least), 0x1p-201, 0x1p-1022, 0x1p-1074,
	} {
		for _, y := range []float64{x, -x} {
			l = append(l, bad{point(y), api.ErrFit}, bad{to(y, 1), api.ErrFit}, bad{to(1, y), api.ErrFit}, bad{to(0, y), api.ErrFit}, bad{to(y, 0), api.ErrFit})
			l = append(l, bad{to(y, -greatest), api.ErrFit}, bad{to(greatest, y), api.ErrFit}) // told ahead of the order
		}
	}
	return l
}

// P4.1: Check, Make and Of.

func TestCheckAndMake(t *testing.T) {
	for _, s := range spans() {
		if err := span.Check(s); err != api.OK {
			t.Errorf("Check(%v): %v", s, err)
		}
		if got, err := span.Make(s.Lo, s.Hi); err != api.OK || !same(got, to(s.Lo+0, s.Hi+0)) {
			t.Errorf("Make(%v): %v, %v", s, got, err)
		}
		if got, err := span.Of(s.Hi); err != api.OK || !same(got, point(s.Hi+0)) {
			t.Errorf("Of(%v): %v, %v", s.Hi, got, err)
		}
	}
	for _, b := range bads() {
		if err := span.Check(b.s); err != b.err {
			t.Errorf("Check(%v): %v, want %v", b.s, err, b.err)
		}
		if got, err := span.Make(b.s.Lo, b.s.Hi); err != b.err || !same(got, api.Span{}) {
			t.Errorf("Make(%v): %v, %v, want %v", b.s, got, err, b.err)
		}
		if got, err := span.Of(b.s.Lo); !grain.Fit(b.s.Lo) && (err != api.ErrFit || !same(got, api.Span{})) {
			t.Errorf("Of(%v): %v, %v", b.s.Lo, got, err)
		}
	}
}

// P4.1: the calls whose answer is a span.

func TestOfOneSpan(t *testing.T) {
	for _, o := range ones() {
		for _, a := range spans() {
			got, err := o.call(a)
			want, wantErr := o.want(a)
			if err != wantErr || !same(got, want) {
				t.Errorf("%s(%v): %v, %v, want %v, %v", o.name, a, got, err, want, wantErr)
			}
		}
	}
}

func TestOfTwoSpans(t *testing.T) {
	for _, o := range twos() {
		check := func(a, b api.Span) {
			got, err := o.call(a, b)
			want, wantErr := o.want(a, b)
			if err != wantErr || !same(got, want) {
				t.Errorf("%s(%v, %v): %v, %v, want %v, %v", o.name, a, b, got, err, want, wantErr)
			}
		}
		pairs(check)
		points(check)
	}
}

// What 'outwards' says of ends about 0, about 2^200, and of noughts, worked out by hand.
func TestOutwardsAtTheEdges(t *testing.T) {
	odd := grain.Next(least) // 2^-200 + 2^-252
	top := grain.Prev(greatest)
	for _, c := range []struct {
		what string
		call func(a, b api.Span) (api.Span, api.Errno)
		a, b api.Span
		want api.Span
		err  api.Errno
	}{
		{"Sub", span.Sub, point(odd), point(least), to(0, least), api.OK}, // 2^-252
		{"Sub", span.Sub, point(least), point(odd), to(-least, 0), api.OK},
		{"Add", span.Add, to(-odd, odd), point(least), to(-least, grain.Next(0x1p-199)), api.OK},
		{"Add", span.Add, point(least), point(least), point(0x1p-199), api.OK},
		{"Add", span.Add, point(1), point(least), to(1, grain.Next(1)), api.OK},
		{"Add", span.Add, point(1), point(-least), to(grain.Prev(1), 1), api.OK},
		{"Add", span.Add, point(-1), point(least), to(-1, -grain.Prev(1)), api.OK},
		{"Add", span.Add, point(-0x1p100), point(0x1p100), to(0, 0), api.OK},
		{"Add", span.Add, point(negZero), point(negZero), to(0, 0), api.OK},
		{"Add", span.Add, point(greatest), point(-least), to(top, greatest), api.OK},
		{"Add", span.Add, point(greatest), point(least), api.Span{}, api.ErrFit}, // its Hi alone is too great
		{"Sub", span.Sub, point(-greatest), point(least), api.Span{}, api.ErrFit},
		{"Add", span.Add, point(greatest / 2), point(greatest / 2), point(greatest), api.OK},
		{"Mul", span.Mul, point(0x1p-100), point(0x1p-100), point(least), api.OK},
		{"Mul", span.Mul, point(0x1p-100), point(0x1p-101), to(0, least), api.OK},
		{"Mul", span.Mul, point(-0x1p-100), point(0x1p-101), to(-least, 0), api.OK},
		{"Mul", span.Mul, point(least), point(grain.Prev(1)), to(0, least), api.OK},
		{"Mul", span.Mul, to(-0x1p-150, 0x1p-150), point(0x1p-150), to(-least, least), api.OK},
		{"Mul", span.Mul, point(-1), point(0), to(0, 0), api.OK},
		{"Mul", span.Mul, point(0x1p100), point(0x1p100), point(greatest), api.OK},
		{"Mul", span.Mul, point(0x1p100), point(-grain.Next(0x1p100)), api.Span{}, api.ErrFit},
		{"Mul", span.Mul, to(0, 0x1p150), to(-0x1p150, 0), api.Span{}, api.ErrFit}, // its Lo alone is too great
		{"Div", span.Div, point(-1), point(3), to(-0.33333333333333337, -0.3333333333333333), api.OK},
		{"Div", span.Div, point(1), point(-3), to(-0.33333333333333337, -0.3333333333333333), api.OK},
		{"Div", span.Div, point(-1), point(-3), to(0.3333333333333333, 0.33333333333333337), api.OK},
		{"Div", span.Div, point(1), point(10), to(grain.Prev(0.1), 0.1), api.OK},
		{"Div", span.Div, point(0), point(-3), to(0, 0), api.OK},
		{"Div", span.Div, point(least), point(greatest), to(0, least), api.OK},
		{"Div", span.Div, point(least), point(-3), to(-least, 0), api.OK},
		{"Div", span.Div, point(greatest), point(0.5), api.Span{}, api.ErrFit},
		{"Div", span.Div, point(greatest), to(grain.Prev(1), 1), api.Span{}, api.ErrFit},
		{"Div", span.Div, to(-2, 4), to(1, 2), to(-2, 4), api.OK},
		{"Div", span.Div, to(2, 4), to(-2, -1), to(-4, -1), api.OK},
		{"Hull", span.Hull, to(negZero, negZero), to(0, 0), to(0, 0), api.OK},
		{"Hull", span.Hull, to(1, 4), to(-2, 3), to(-2, 4), api.OK},
	} {
		if got, err := c.call(c.a, c.b); err != c.err || !same(got, c.want) {
			t.Errorf("%s(%v, %v): %v, %v, want %v, %v", c.what, c.a, c.b, got, err, c.want, c.err)
		}
	}
}

func TestOneSpanAtTheEdges(t *testing.T) {
	for _, c := range []struct {
		what string
		call func(a api.Span) (api.Span, api.Errno)
		a    api.Span
		want api.Span
		err  api.Errno
	}{
		{"Neg", span.Neg, to(0, 2), to(-2, 0), api.OK},
		{"Neg", span.Neg, to(negZero, negZero), to(0, 0), api.OK},
		{"Neg", span.Neg, to(-greatest, least), to(-least, greatest), api.OK},
		{"Square", span.Square, to(-3, -2), to(4, 9), api.OK},
		{"Square", span.Square, to(2, 3), to(4, 9), api.OK},
		{"Square", span.Square, to(-3, 2), to(0, 9), api.OK},
		{"Square", span.Square, to(-3, 0), to(0, 9), api.OK},
		{"Square", span.Square, to(negZero, 0), to(0, 0), api.OK},
		{"Square", span.Square, point(0x1p-100), point(least), api.OK},
		{"Square", span.Square, point(-0x1p-101), to(0, least), api.OK},
		{"Square", span.Square, point(-0x1p100), point(greatest), api.OK},
		{"Square", span.Square, to(-grain.Next(0x1p100), 1), api.Span{}, api.ErrFit},
		{"Square", span.Square, to(-1, 0x1p101), api.Span{}, api.ErrFit},
		{"Root", span.Root, to(negZero, 4), to(0, 2), api.OK},
		{"Root", span.Root, point(2), to(1.414213562373095, 1.4142135623730951), api.OK},
		{"Root", span.Root, to(least, greatest), to(0x1p-100, 0x1p100), api.OK},
		{"Root", span.Root, to(-least, 1), api.Span{}, api.ErrSign},
		{"Root", span.Root, to(-2, -1), api.Span{}, api.ErrSign},
	} {
		if got, err := c.call(c.a); err != c.err || !same(got, c.want) {
			t.Errorf("%s(%v): %v, %v, want %v, %v", c.what, c.a, got, err, c.want, c.err)
		}
	}
}

// P4.1: the errors, their order, and that nothing stands beside them.

func TestOneThatIsNoSpanIsRefused(t *testing.T) {
	for _, b := range bads() {
		for _, o := range ones() {
			if got, err := o.call(b.s); err != b.err || !same(got, api.Span{}) {
				t.Errorf("%s(%v): %v, %v, want %v", o.name, b.s, got, err, b.err)
			}
		}
		for what, call := range map[string]func(api.Span) (float64, api.Errno){"Mid": span.Mid, "Width": span.Width} {
			if got, err := call(b.s); err != b.err || math.Float64bits(got) != 0 {
				t.Errorf("%s(%v): %v, %v, want %v", what, b.s, got, err, b.err)
			}
		}
	}
}

func refused(t *testing.T, a, b api.Span, want api.Errno) {
	t.Helper()
	for _, o := range twos() {
		if got, err := o.call(a, b); err != want || !same(got, api.Span{}) {
			t.Errorf("%s(%v, %v): %v, %v, want %v", o.name, a, b, got, err, want)
		}
	}
	if got, some, err := span.Meet(a, b); err != want || some || !same(got, api.Span{}) {
		t.Errorf("Meet(%v, %v): %v, %v, %v, want %v", a, b, got, some, err, want)
	}
	if span.Inside(a, b) {
		t.Errorf("Inside(%v, %v)", a, b)
	}
}

func TestTwoOfWhichOneIsNoSpanAreRefused(t *testing.T) {
	for _, x := range bads() {
		for _, s := range []api.Span{to(1, 2), to(-1, 1), to(0, 0), to(-greatest, greatest)} { // also by Div, ahead of ErrZero
			refused(t, x.s, s, x.err)
			refused(t, s, x.s, x.err)
		}
		for _, y := range bads() {
			refused(t, x.s, y.s, x.err)
		}
	}
}

func TestDivisionByWhatMayBeNought(t *testing.T) {
	for _, a := range []api.Span{to(0, 0), to(1, 1), to(-greatest, greatest)} { // also ahead of an end too great
		for _, b := range []api.Span{to(0, 0), to(negZero, negZero), to(0, 1), to(negZero, least), to(-1, 0), to(-least, negZero), to(-1, 1), to(-least, greatest)} {
			if got, err := span.Div(a, b); err != api.ErrZero || !same(got, api.Span{}) {
				t.Errorf("Div(%v, %v): %v, %v", a, b, got, err)
			}
		}
	}
}

// P4.1: Meet, Has, Inside, Sign.

func TestMeet(t *testing.T) {
	for _, c := range []struct {
		a, b, want api.Span
		some       bool
	}{
		{to(0, 2), to(1, 3), to(1, 2), true}, {to(0, 3), to(1, 2), to(1, 2), true}, {to(1, 2), to(0, 3), to(1, 2), true},
		{to(0, 1), to(1, 2), point(1), true}, {to(0, 1), to(grain.Next(1), 2), api.Span{}, false}, {to(0, 1), to(2, 3), api.Span{}, false},
		{to(2, 3), to(0, 1), api.Span{}, false}, {to(-1, 0), to(negZero, 1), to(0, 0), true}, {to(-1, negZero), to(negZero, 1), to(0, 0), true},
		{to(negZero, negZero), to(negZero, negZero), to(0, 0), true}, {to(-1, -least), to(0, 1), api.Span{}, false},
	} {
		if got, some, err := span.Meet(c.a, c.b); err != api.OK || some != c.some || !same(got, c.want) {
			t.Errorf("Meet(%v, %v): %v, %v, %v", c.a, c.b, got, some, err)
		}
	}
}

func TestHas(t *testing.T) {
	for _, a := range spans() {
		below, above := grain.Prev(a.Lo), grain.Next(a.Hi)
		if !span.Has(a, a.Lo) || !span.Has(a, a.Hi) || span.Has(a, below) || span.Has(a, above) {
			t.Errorf("Has: about the ends of %v", a)
		}
		for _, x := range []float64{math.NaN(), math.Inf(1), math.Inf(-1), math.MaxFloat64} {
			if span.Has(a, x) {
				t.Errorf("Has(%v, %v)", a, x)
			}
		}
	}
	for _, x := range []float64{0x1p-201, -0x1p-201, 0x1p-1074, negZero, 0} { // unfit ones are numbers too
		if !span.Has(to(-1, 1), x) {
			t.Errorf("not Has([-1, 1], %v)", x)
		}
	}
	if !span.Has(to(0, 1), negZero) || !span.Has(to(-1, negZero), 0) {
		t.Error("Has: a nought with the other sign")
	}
	for _, b := range bads() {
		for _, x := range []float64{b.s.Lo, b.s.Hi, 0, 0.5, 1, 1.5, -1, greatest, least} {
			if span.Has(b.s, x) {
				t.Errorf("Has(%v, %v)", b.s, x)
			}
		}
	}
}

func TestInside(t *testing.T) {
	for _, c := range []struct {
		a, b api.Span
		want bool
	}{
		{to(1, 2), to(1, 2), true}, {to(1, 2), to(0, 2), true}, {to(1, 2), to(1, 3), true}, {to(1, 2), to(grain.Next(1), 2), false},
		{to(1, 2), to(1, grain.Prev(2)), false}, {to(0, 3), to(1, 2), false}, {to(0, 1), to(2, 3), false}, {to(2, 3), to(0, 1), false},
		{to(negZero, 1), to(0, 1), true}, {to(-1, 0), to(-1, negZero), true},
	} {
		if got := span.Inside(c.a, c.b); got != c.want {
			t.Errorf("Inside(%v, %v): %v", c.a, c.b, got)
		}
	}
}

func TestSign(t *testing.T) {
	for _, a := range spans() {
		want := 0
		if a.Lo > 0 {
			want = 1
		} else if a.Hi < 0 {
			want = -1
		}
		if got := span.Sign(a); got != want {
			t.Errorf("Sign(%v): %d", a, got)
		}
	}
	for _, b := range bads() {
		if got := span.Sign(b.s); got != 0 {
			t.Errorf("Sign(%v): %d", b.s, got)
		}
	}
}

// P4.2.

// lies: Lo times y at most x, and x at most Hi times y, for y above 0: so x / y, a sum or a product (y being 1) is told without being rounded.
func lies(s api.Span, x, y *big.Float) bool {
	lo := new(big.Float).Mul(exact(s.Lo), y)
	hi := new(big.Float).Mul(exact(s.Hi), y)
	return lo.Cmp(x) <= 0 && x.Cmp(hi) <= 0
}

func TestSpansHold(t *testing.T) {
	c, unit := chance(4), exact(1)
	pairs(func(a, b api.Span) {
		for range 3 {
			x, y := c.within(a), c.within(b)
			if s, err := span.Add(a, b); err == api.OK && !lies(s, new(big.Float).Add(exact(x), exact(y)), unit) {
				t.Errorf("%v + %v: not in %v", x, y, s)
			}
			if s, err := span.Sub(a, b); err == api.OK && !lies(s, new(big.Float).Sub(exact(x), exact(y)), unit) {
				t.Errorf("%v - %v: not in %v", x, y, s)
			}
			if s, err := span.Mul(a, b); err == api.OK && !lies(s, new(big.Float).Mul(exact(x), exact(y)), unit) {
				t.Errorf("%v times %v: not in %v", x, y, s)
			}
			if s, err := span.Div(a, b); err == api.OK && !lies(s, exact(math.Copysign(1, y)*x), exact(math.Abs(y))) {
				t.Errorf("%v / %v: not in %v", x, y, s)
			}
		}
	})
}

func TestSquaresAndRootsHold(t *testing.T) {
	c, unit := chance(5), exact(1)
	for _, a := range spans() {
		for range 5 {
			x := c.within(a)
			if s, err := span.Square(a); err == api.OK && !lies(s, new(big.Float).Mul(exact(x), exact(x)), unit) {
				t.Errorf("the square of %v: not in %v", x, s)
			}
			if s, err := span.Root(a); err == api.OK {
				lo, hi := new(big.Float).Mul(exact(s.Lo), exact(s.Lo)), new(big.Float).Mul(exact(s.Hi), exact(s.Hi))
				if s.Lo < 0 || lo.Cmp(exact(x)) > 0 || exact(x).Cmp(hi) > 0 {
					t.Errorf("the root of %v: not in %v", x, s)
				}
			}
		}
	}
}

// P4.3.

// tight: a point where the exact result is the point (as both rounded ends tell) and may be an end; else neighbours, or 0 and 2^-200.
func tight(s, rounded api.Span) bool {
	if rounded.Lo == rounded.Hi && grain.Fit(rounded.Lo) {
		return same(s, point(rounded.Lo+0))
	}
	return grain.Next(s.Lo) == s.Hi || same(s, to(0, least)) || same(s, to(-least, 0))
}

func TestPointsAreTight(t *testing.T) {
	check := func(what string, a, b, s api.Span, err api.Errno, rounded api.Span) {
		if err == api.OK && !tight(s, rounded) {
			t.Errorf("%s of %v (and %v): %v isn't tight", what, a, b, s)
		}
	}
	points(func(a, b api.Span) {
		s, err := span.Add(a, b)
		check("Add", a, b, s, err, ends((*big.Float).Add, a.Lo, b.Lo))
		s, err = span.Sub(a, b)
		check("Sub", a, b, s, err, ends((*big.Float).Sub, a.Lo, b.Lo))
		s, err = span.Mul(a, b)
		check("Mul", a, b, s, err, ends((*big.Float).Mul, a.Lo, b.Lo))
		s, err = span.Square(a)
		check("Square", a, a, s, err, ends((*big.Float).Mul, a.Lo, a.Lo))
		if b.Lo != 0 {
			s, err = span.Div(a, b)
			check("Div", a, b, s, err, ends((*big.Float).Quo, a.Lo, b.Lo))
		}
		if a.Lo >= 0 {
			s, err = span.Root(a)
			check("Root", a, a, s, err, rootEnds(a.Lo))
		}
		if s, err = span.Neg(a); err != api.OK || !same(s, point(-a.Lo+0)) {
			t.Errorf("Neg(%v): %v, %v", a, s, err)
		}
	})
}

// P4.4.

func TestSmallerInSmallerOut(t *testing.T) {
	r := chance(6)
	for range 60000 {
		l, m := r.risen(4), r.risen(4)
		a, c := to(l[1], l[2]), to(l[0], l[3])
		b, d := to(m[1], m[2]), to(m[0], m[3])
		for _, o := range ones() {
			small, err := o.call(a)
			if great, err2 := o.call(c); err == api.OK && err2 == api.OK && !span.Inside(small, great) {
				t.Errorf("%s of %v: %v, of %v: %v", o.name, a, small, c, great)
			}
		}
		for _, o := range twos() {
			small, err := o.call(a, b)
			if great, err2 := o.call(c, d); err == api.OK && err2 == api.OK && !span.Inside(small, great) {
				t.Errorf("%s of %v and %v: %v, of %v and %v: %v", o.name, a, b, small, c, d, great)
			}
		}
		small, some, _ := span.Meet(a, b)
		if great, some2, _ := span.Meet(c, d); some && (!some2 || !span.Inside(small, great)) {
			t.Errorf("Meet of %v and %v: %v, of %v and %v: %v", a, b, small, c, d, great)
		}
	}
}

// P4.5.

func TestSets(t *testing.T) {
	c := chance(7)
	pairs(func(a, b api.Span) {
		if h, err := span.Hull(a, b); err != api.OK || !span.Inside(a, h) || !span.Inside(b, h) {
			t.Errorf("Hull(%v, %v): %v, %v", a, b, h, err)
		}
		m, some, err := span.Meet(a, b)
		if err != api.OK || some && (!span.Inside(m, a) || !span.Inside(m, b)) || !some && !same(m, api.Span{}) {
			t.Errorf("Meet(%v, %v): %v, %v, %v", a, b, m, some, err)
		}
		for _, x := range []float64{a.Lo, a.Hi, b.Lo, b.Hi, c.within(a), c.within(b)} {
			if both := span.Has(a, x) && span.Has(b, x); both != (some && span.Has(m, x)) {
				t.Errorf("Meet(%v, %v): %v, %v: of %v", a, b, m, some, x)
			}
		}
		if (span.Inside(a, b) && span.Inside(b, a)) != (a == b) {
			t.Errorf("Inside: %v and %v", a, b)
		}
	})
}

// P4.6, and Mid and Width of P4.1.

func TestMid(t *testing.T) {
	for _, a := range spans() {
		want := new(big.Float).Mul(exact(0.5), new(big.Float).Add(exact(a.Lo), exact(a.Hi)))
		x, _ := want.Float64() // halves are exact: rounded once
		got, err := span.Mid(a)
		if err != api.OK || math.Float64bits(got) != math.Float64bits(x+0) || !span.Has(a, got) {
			t.Errorf("Mid(%v): %v, %v", a, got, err)
		}
	}
}

func TestWidth(t *testing.T) {
	for _, a := range spans() {
		want := ends((*big.Float).Sub, a.Hi, a.Lo).Hi + 0
		got, err := span.Width(a)
		if err != api.OK || math.Float64bits(got) != math.Float64bits(want) || (got == 0) != (a.Lo == a.Hi) {
			t.Errorf("Width(%v): %v, %v, want %v", a, got, err, want)
		}
	}
}

// Numbers that are no ends of a span are answered as they are, fit or not.
func TestMidAndWidthAtTheEdges(t *testing.T) {
	for _, c := range []struct {
		a          api.Span
		mid, width float64
	}{
		{to(1, 4), 2.5, 3}, {to(-1, 1), 0, 2}, {point(greatest), greatest, 0}, {point(least), least, 0}, {to(negZero, negZero), 0, 0}, {to(0, negZero), 0, 0},
		{to(-greatest, greatest), 0, 0x1p201}, {to(least, grain.Next(least)), least, 0x1p-252}, {to(-least, grain.Next(least)), 0x1p-253, grain.Next(0x1p-199)},
		{to(-least, 1), 0.5, grain.Next(1)}, {to(least, 1), 0.5, 1}, {to(-1, 0x1p-53), -0.5 + 0x1p-54, grain.Next(1)}, {to(-0x1p-54, 1), 0.5, grain.Next(1)},
	} {
		if got, err := span.Mid(c.a); err != api.OK || math.Float64bits(got) != math.Float64bits(c.mid) {
			t.Errorf("Mid(%v): %v, %v, want %v", c.a, got, err, c.mid)
		}
		if got, err := span.Width(c.a); err != api.OK || math.Float64bits(got) != math.Float64bits(c.width) {
			t.Errorf("Width(%v): %v, %v, want %v", c.a, got, err, c.width)
		}
	}
}

// P1: each call answers, whatever the bits; and P4.1: what it answers is a span, or nothing beside an error.

func TestAnyBits(t *testing.T) {
	c := chance(8)
	end := func() float64 {
		switch c.below(3) {
		case 0:
			return math.Float64frombits(c.bits())
		case 1:
			return c.number(200)
		}
		return float64(c.below(5) - 2)
	}
	proper := func(what string, s api.Span, err api.Errno) {
		if err != api.OK && !same(s, api.Span{}) || span.Check(s) != api.OK || !same(s, to(s.Lo+0, s.Hi+0)) {
			t.Errorf("%s answers %v, %v", what, s, err)
		}
	}
	for range 100000 {
		a, b := to(end(), end()), to(end(), end())
		for _, o := range ones() {
			s, err := o.call(a)
			proper(o.name, s, err)
		}
		for _, o := range twos() {
			s, err := o.call(a, b)
			proper(o.name, s, err)
		}
		s, some, err := span.Meet(a, b)
		proper("Meet", s, err)
		if may := span.Check(a) == api.OK && span.Check(b) == api.OK; may != (err == api.OK) || some && !may || span.Inside(a, b) && !may {
			t.Errorf("Meet(%v, %v): %v, %v, %v", a, b, s, some, err)
		}
		span.Has(a, b.Lo)
		if m, err := span.Mid(a); err == api.OK != span.Has(a, m) {
			t.Errorf("Mid(%v): %v, %v", a, m, err)
		}
		if w, err := span.Width(a); w < 0 || err != span.Check(a) {
			t.Errorf("Width(%v): %v, %v", a, w, err)
		}
	}
}

// The chapter's examples.

func TestExamples(t *testing.T) {
	for _, c := range []struct {
		what string
		call func(a, b api.Span) (api.Span, api.Errno)
		a, b api.Span
		want api.Span
		err  api.Errno
	}{
		{"Div", span.Div, to(1, 1), to(3, 3), to(0.3333333333333333, 0.33333333333333337), api.OK},
		{"Mul", span.Mul, to(-1, 2), to(-3, 5), to(-6, 10), api.OK},
		{"Add", span.Add, point(greatest), point(greatest), api.Span{}, api.ErrFit},
		{"Div", span.Div, to(1, 1), to(0, 1), api.Span{}, api.ErrZero},
		{"Mul", span.Mul, point(0x1p-150), point(0x1p-150), to(0, least), api.OK},
	} {
		if got, err := c.call(c.a, c.b); err != c.err || !same(got, c.want) {
			t.Errorf("%s(%v, %v): %v, %v", c.what, c.a, c.b, got, err)
		}
	}
	if s, err := span.Square(to(-2, 1)); err != api.OK || !same(s, to(0, 4)) {
		t.Errorf("Square([-2, 1]): %v, %v", s, err)
	}
	if s, err := span.Make(2, 1); err != api.ErrOrder || !same(s, api.Span{}) {
		t.Errorf("Make(2, 1): %v, %v", s, err)
	}
	if s, err := span.Make(math.NaN(), 1); err != api.ErrFit || !same(s, api.Span{}) {
		t.Errorf("Make(a NaN, 1): %v, %v", s, err)
	}
	if s, err := span.Make(negZero, 0); err != api.OK || !same(s, to(0, 0)) {
		t.Errorf("Make(-0, 0): %v, %v", s, err)
	}
	if s, err := span.Root(to(-1, 4)); err != api.ErrSign || !same(s, api.Span{}) {
		t.Errorf("Root([-1, 4]): %v, %v", s, err)
	}
	if s, some, err := span.Meet(to(0, 1), to(2, 3)); err != api.OK || some || !same(s, api.Span{}) {
		t.Errorf("Meet([0, 1], [2, 3]): %v, %v, %v", s, some, err)
	}
	if span.Sign(to(0, 1)) != 0 || span.Sign(to(1, 2)) != 1 || span.Sign(to(2, 1)) != 0 {
		t.Error("Sign")
	}
}
