package twain_test

import (
	"math"
	"math/big"
	"testing"

	"orrery/api"
	"orrery/grain"
	"orrery/twain"
)

var negZero = math.Copysign(0, -1)

func bits(x float64) uint64 { return math.Float64bits(x) }

// both: each number of l and its negative.
func both(l []float64) []float64 {
	for _, x := range l {
		l = append(l, -x)
	}
	return l
}

// edges: fit numbers at the ends of what is fit, about 1, and with few or all digits.
func edges() []float64 {
	return both([]float64{
		0, 0x1p-200, grain.Next(0x1p-200), 0x3p-201, 0x1p-199, grain.Prev(0x1p-199), 0x1p-150, 0x1p-148 - 0x1p-200, 0x1p-100,
		0x1p-60, 0x1p-54, grain.Next(0x1p-54), 0x1p-53, grain.Prev(0x1p-53), grain.Next(0x1p-53), 0x3p-54, 0x1p-52,
		0.1, 0.25, 1.0 / 3, 0.5, grain.Prev(1), 1, grain.Next(1), 1 + 0x1p-27, 1 + 0x1p-26, 1.5, 2, grain.Prev(2), 3, 10, math.Pi,
		134217727, 134217728, 134217729, 0x1p52 - 1, 0x1p53 - 1, 0x1p53, 0x1p53 + 2, 0x1p100, 0x1p100 + 0x1p48, 0x1p152 + 0x1p100,
		0x1p199, grain.Prev(0x1p199), 0x3p198, grain.Prev(0x1p200), 0x1p200,
	})
}

// unfit: numbers of which each is refused wherever it stands.
func unfit() []float64 {
	return both([]float64{
		math.NaN(), math.Float64frombits(0x7ff0000000000001), math.Inf(1), math.MaxFloat64, 0x1p1023, 0x1p400, 0x1p201, grain.Next(0x1p200),
		grain.Prev(0x1p-200), 0x1p-201, 0x1p-400, 0x1p-1022, 0x1p-1074,
	})
}

// scattered answers numbers that depend on nothing but how many were asked for ahead of them.
func scattered() func() uint64 {
	s := uint64(1)
	return func() uint64 {
		s = s*6364136223846793005 + 1442695040888963407
		return s ^ s>>29
	}
}

// some: the number with this sign, fraction and power of two.
func some(sign, fraction uint64, power int) float64 {
	return math.Float64frombits(sign<<63 | uint64(power+1023)<<52 | fraction&(1<<52-1))
}

// sweep: fit numbers of every power of two and either sign, with fractions at the ends, in the middle, and scattered.
func sweep() []float64 {
	l := edges()
	next := scattered()
	for power := -200; power < 200; power++ {
		for _, f := range []uint64{0, 1, 1<<25 - 1, 1 << 25, 1<<26 - 1, 1 << 26, 1<<51 - 1, 1 << 51, 1<<52 - 1, next(), next(), next()} {
			l = append(l, some(next()>>63, f, power))
		}
	}
	return l
}

// pairs calls f for the pairs of edges, and for each number of the sweep with others: far away, and of a power of two nearby.
func pairs(f func(a, b float64)) {
	l := edges()
	for _, a := range l {
		for _, b := range l {
			f(a, b)
		}
	}
	all, next := sweep(), scattered()
	for _, a := range all {
		for range 6 {
			f(a, all[next()%uint64(len(all))])
		}
		if a == 0 {
			continue
		}
		for _, away := range []int{0, 1, 2, 26, 27, 51, 52, 53, 54, 55, 106} {
			power := min(max(math.Ilogb(a)-away, -200), 199)
			f(a, some(next()>>63, next(), power))
			f(a, some(next()>>63, 0, power))
			f(some(next()>>63, next(), power), a)
		}
		f(a, a)
		f(a, -a)
		f(a, 1)
		f(0, a)
		f(a, negZero)
	}
}

// exact: x as a number of mathematics; sums and products of a few such stay exact.
func exact(x float64) *big.Float { return new(big.Float).SetPrec(3000).SetFloat64(x) }

func add(a, b *big.Float) *big.Float { return new(big.Float).SetPrec(3000).Add(a, b) }

func mul(a, b *big.Float) *big.Float { return new(big.Float).SetPrec(3000).Mul(a, b) }

// nearest: the number of binary64 nearest to x, ties to even.
func nearest(x *big.Float) float64 {
	n, _ := x.Float64()
	return n
}

// sameFirst: is got this number, a nought with this sign (told by negative)?
func sameFirst(got, want float64, negative bool) bool {
	if want == 0 {
		return got == 0 && math.Signbit(got) == negative
	}
	return bits(got) == bits(want)
}

// small: is the magnitude of e at most half of Ulp of x? (Exactly: half of the least Ulp is no number.)
func small(e, x float64) bool {
	double := mul(exact(e), exact(2))
	return double.Abs(double).Cmp(exact(grain.Ulp(x))) <= 0
}

func signsDiffer(a, b float64) bool { return math.Signbit(a) != math.Signbit(b) }

// P2.1 to P2.3 of Sum.

func TestSumIsRoundedAndKeepsTheRest(t *testing.T) {
	pairs(func(a, b float64) {
		s, e, err := twain.Sum(a, b)
		whole := add(exact(a), exact(b))
		belowBoth := a == 0 && b == 0 && math.Signbit(a) && math.Signbit(b)
		if err != api.OK || !sameFirst(s, nearest(whole), belowBoth) {
			t.Errorf("Sum(%v, %v): %v, %v, %v", a, b, s, e, err)
		}
		if add(exact(s), exact(e)).Cmp(whole) != 0 {
			t.Errorf("Sum(%v, %v): %v and %v aren't the sum", a, b, s, e)
		}
		if !small(e, s) {
			t.Errorf("Sum(%v, %v): the rest %v of %v is great", a, b, e, s)
		}
	})
}

// P2.1 to P2.3 of Prod.

func TestProdIsRoundedAndKeepsTheRest(t *testing.T) {
	pairs(func(a, b float64) {
		p, e, err := twain.Prod(a, b)
		whole := mul(exact(a), exact(b))
		if err != api.OK || !sameFirst(p, nearest(whole), signsDiffer(a, b)) {
			t.Errorf("Prod(%v, %v): %v, %v, %v", a, b, p, e, err)
		}
		if add(exact(p), exact(e)).Cmp(whole) != 0 {
			t.Errorf("Prod(%v, %v): %v and %v aren't the product", a, b, p, e)
		}
		if !small(e, p) {
			t.Errorf("Prod(%v, %v): the rest %v of %v is great", a, b, e, p)
		}
	})
}

// P2.1 and P2.2 of Quot.

func TestQuotIsRoundedAndKeepsTheRest(t *testing.T) {
	pairs(func(a, b float64) {
		q, r, err := twain.Quot(a, b)
		if b == 0 {
			if err != api.ErrZero || bits(q) != 0 || bits(r) != 0 {
				t.Errorf("Quot(%v, %v): %v, %v, %v", a, b, q, r, err)
			}
			return
		}
		want, _ := new(big.Rat).Quo(new(big.Rat).SetFloat64(a), new(big.Rat).SetFloat64(b)).Float64()
		if err != api.OK || !sameFirst(q, want, signsDiffer(a, b)) {
			t.Errorf("Quot(%v, %v): %v, %v, %v, want %v", a, b, q, r, err, want)
		}
		if add(mul(exact(q), exact(b)), exact(r)).Cmp(exact(a)) != 0 {
			t.Errorf("Quot(%v, %v): %v times it and %v aren't %v", a, b, q, r, a)
		}
	})
}

// P2.1 and P2.2 of Root.

// nearestRoot: does the root of a lie between the middles from s to its neighbours? (It can't lie on one: that has too many digits.)
func nearestRoot(s, a float64) bool {
	half := exact(0.5)
	low := mul(half, add(exact(grain.Prev(s)), exact(s)))
	high := mul(half, add(exact(s), exact(grain.Next(s))))
	return s > 0 && mul(low, low).Cmp(exact(a)) < 0 && mul(high, high).Cmp(exact(a)) > 0
}

func TestRootIsRoundedAndKeepsTheRest(t *testing.T) {
	l := sweep()
	for _, x := range sweep() { // squares, and what lies next to them
		if s := float64(x * x); grain.Fit(s) && grain.Fit(grain.Prev(s)) && grain.Fit(grain.Next(s)) {
			l = append(l, s, grain.Prev(s), grain.Next(s))
		}
	}
	for _, a := range l {
		s, r, err := twain.Root(a)
		if a < 0 {
			if err != api.ErrSign || bits(s) != 0 || bits(r) != 0 {
				t.Errorf("Root(%v): %v, %v, %v", a, s, r, err)
			}
			continue
		}
		if a == 0 {
			if err != api.OK || bits(s) != bits(a) || r != 0 {
				t.Errorf("Root(%v): %v, %v, %v", a, s, r, err)
			}
			continue
		}
		if err != api.OK || !nearestRoot(s, a) {
			t.Errorf("Root(%v): %v, %v, %v", a, s, r, err)
		}
		if add(mul(exact(s), exact(s)), exact(r)).Cmp(exact(a)) != 0 {
			t.Errorf("Root(%v): the square of %v, and %v, aren't %v", a, s, r, a)
		}
	}
}

// P2.2: at the ends, and where digits go furthest.

func TestRestsAtTheEnds(t *testing.T) {
	least, greatest := 0x1p-200, 0x1p200
	odd := grain.Next(least) // (1 + 2^-52) 2^-200
	top := grain.Prev(greatest)
	for _, c := range []struct {
		what        string
		call        func(a, b float64) (float64, float64, api.Errno)
		a, b        float64
		first, rest float64
	}{
		{"Sum", twain.Sum, greatest, greatest, 0x1p201, 0},
		{"Sum", twain.Sum, greatest, least, greatest, least},
		{"Sum", twain.Sum, -greatest, odd, -greatest, odd},
		{"Sum", twain.Sum, odd, -least, 0x1p-252, 0},
		{"Sum", twain.Sum, top, greatest, 0x1p201, -0x1p147},
		{"Sum", twain.Sum, 1, 0x1p-53, 1, 0x1p-53},                        // a tie, to even
		{"Sum", twain.Sum, grain.Next(1), 0x1p-53, 1 + 0x1p-51, -0x1p-53}, // a tie, to even
		{"Sum", twain.Sum, 1, grain.Next(0x1p-53), grain.Next(1), -0x1p-53 + 0x1p-105},
		{"Prod", twain.Prod, greatest, greatest, 0x1p400, 0},
		{"Prod", twain.Prod, top, top, 0x1p400 - 0x1p348, 0x1p294},
		{"Prod", twain.Prod, least, -least, -0x1p-400, 0},
		{"Prod", twain.Prod, odd, odd, 0x1p-400 + 0x1p-451, 0x1p-504},
		{"Prod", twain.Prod, 1 + 0x1p-26, 1 + 0x1p-27, 1 + 0x3p-27, 0x1p-53}, // a tie, to even
		{"Quot", twain.Quot, greatest, least, 0x1p400, 0},
		{"Quot", twain.Quot, least, -greatest, -0x1p-400, 0},
		{"Quot", twain.Quot, least, top, 0x1p-400 + 0x1p-452, -0x1p-253 + 0x1p-305},
	} {
		first, rest, err := c.call(c.a, c.b)
		if err != api.OK || bits(first) != bits(c.first) || rest != c.rest {
			t.Errorf("%s(%v, %v): %v, %v, %v, want %v, %v", c.what, c.a, c.b, first, rest, err, c.first, c.rest)
		}
	}
}

// P2.4.

func TestEitherWay(t *testing.T) {
	pairs(func(a, b float64) {
		s, e, _ := twain.Sum(a, b)
		s2, e2, _ := twain.Sum(b, a)
		if bits(s) != bits(s2) || e != e2 {
			t.Errorf("Sum of %v and %v: %v, %v, and the other way %v, %v", a, b, s, e, s2, e2)
		}
		p, e, _ := twain.Prod(a, b)
		p2, e2, _ := twain.Prod(b, a)
		if bits(p) != bits(p2) || e != e2 {
			t.Errorf("Prod of %v and %v: %v, %v, and the other way %v, %v", a, b, p, e, p2, e2)
		}
	})
}

// P2.1: the signs of noughts.

func TestNoughtsHaveTheirSigns(t *testing.T) {
	for _, c := range []struct {
		what       string
		call       func(a, b float64) (float64, float64, api.Errno)
		a, b, want float64
	}{
		{"Sum", twain.Sum, 0, 0, 0}, {"Sum", twain.Sum, 0, negZero, 0}, {"Sum", twain.Sum, negZero, 0, 0}, {"Sum", twain.Sum, negZero, negZero, negZero},
		{"Sum", twain.Sum, 1, -1, 0}, {"Sum", twain.Sum, -1, 1, 0},
		{"Prod", twain.Prod, 0, 0, 0}, {"Prod", twain.Prod, 0, negZero, negZero}, {"Prod", twain.Prod, negZero, negZero, 0},
		{"Prod", twain.Prod, 0, -2, negZero}, {"Prod", twain.Prod, negZero, -2, 0}, {"Prod", twain.Prod, 2, negZero, negZero},
		{"Quot", twain.Quot, 0, 2, 0}, {"Quot", twain.Quot, 0, -2, negZero}, {"Quot", twain.Quot, negZero, 2, negZero}, {"Quot", twain.Quot, negZero, -2, 0},
	} {
		first, rest, err := c.call(c.a, c.b)
		if err != api.OK || bits(first) != bits(c.want) || rest != 0 {
			t.Errorf("%s(%v, %v): %v, %v, %v, want %v", c.what, c.a, c.b, first, rest, err, c.want)
		}
	}
	for _, a := range []float64{0, negZero} {
		if s, r, err := twain.Root(a); err != api.OK || bits(s) != bits(a) || r != 0 {
			t.Errorf("Root(%v): %v, %v, %v", a, s, r, err)
		}
	}
}

// P2.1: the errors, and that nothing stands beside them.

func refused(t *testing.T, what string, a, b, first, rest float64, err, want api.Errno) {
	t.Helper()
	if err != want || bits(first) != 0 || bits(rest) != 0 {
		t.Errorf("%s of %v (and %v): %v, %v, %v, want %v and noughts", what, a, b, first, rest, err, want)
	}
}

func refusedByAll(t *testing.T, a, b float64) {
	t.Helper()
	first, rest, err := twain.Sum(a, b)
	refused(t, "Sum", a, b, first, rest, err, api.ErrFit)
	first, rest, err = twain.Prod(a, b)
	refused(t, "Prod", a, b, first, rest, err, api.ErrFit)
	first, rest, err = twain.Quot(a, b)
	refused(t, "Quot", a, b, first, rest, err, api.ErrFit)
}

func TestUnfitNumbersAreRefused(t *testing.T) {
	for _, x := range unfit() {
		for _, y := range append(edges(), unfit()...) {
			refusedByAll(t, x, y)
			refusedByAll(t, y, x)
		}
		first, rest, err := twain.Root(x) // also of one below 0
		refused(t, "Root", x, 0, first, rest, err, api.ErrFit)
	}
}

func TestDivisorsThatAreNoughtAreRefused(t *testing.T) {
	for _, a := range edges() {
		for _, b := range []float64{0, negZero} {
			first, rest, err := twain.Quot(a, b)
			refused(t, "Quot", a, b, first, rest, err, api.ErrZero)
		}
	}
}

func TestRootsOfWhatLiesBelowAreRefused(t *testing.T) {
	for _, a := range []float64{-1, -0x1p-200, -0x1p200, -0.1, grain.Prev(-0x1p-200)} {
		first, rest, err := twain.Root(a)
		refused(t, "Root", a, 0, first, rest, err, api.ErrSign)
	}
}

// P1: each call answers, whatever the bits.

func TestAllPowersOfTwo(t *testing.T) {
	next := scattered()
	for exponent := range uint64(2048) {
		a := math.Float64frombits(next()>>63<<63 | exponent<<52 | next()>>12)
		b := math.Float64frombits(next())
		want := api.OK
		if !grain.Fit(a) || !grain.Fit(b) {
			want = api.ErrFit
		}
		_, _, sum := twain.Sum(a, b)
		_, _, prod := twain.Prod(b, a)
		_, _, quot := twain.Quot(a, b)
		if sum != want || prod != want || quot != want && b != 0 {
			t.Errorf("of bits %016x and %016x: %v, %v, %v, want %v", bits(a), bits(b), sum, prod, quot, want)
		}
		_, _, root := twain.Root(a)
		if grain.Fit(a) == (root == api.ErrFit) || grain.Fit(a) && (root == api.ErrSign) != (a < 0) {
			t.Errorf("Root of bits %016x: %v", bits(a), root)
		}
	}
}

// The chapter's examples.

func TestExamples(t *testing.T) {
	for _, c := range []struct {
		what        string
		call        func(a, b float64) (float64, float64, api.Errno)
		a, b        float64
		first, rest float64
		err         api.Errno
	}{
		{"Sum", twain.Sum, 1, 0x1p-60, 1, 0x1p-60, api.OK},
		{"Sum", twain.Sum, 0x1p201, 0, 0, 0, api.ErrFit},
		{"Prod", twain.Prod, 0.1, 10, 1, 5.551115123125783e-17, api.OK},
		{"Quot", twain.Quot, 1, 3, 0.3333333333333333, 5.551115123125783e-17, api.OK},
		{"Quot", twain.Quot, 1, 0, 0, 0, api.ErrZero},
		{"Quot", twain.Quot, math.NaN(), 0, 0, 0, api.ErrFit},
	} {
		first, rest, err := c.call(c.a, c.b)
		if err != c.err || bits(first) != bits(c.first) || bits(rest) != bits(c.rest) {
			t.Errorf("%s(%v, %v): %v, %v, %v", c.what, c.a, c.b, first, rest, err)
		}
	}
	if s, r, err := twain.Root(2); err != api.OK || s != 1.4142135623730951 || r != -2.7343234630647693e-16 {
		t.Errorf("Root(2): %v, %v, %v", s, r, err)
	}
	if _, _, err := twain.Root(-1); err != api.ErrSign {
		t.Errorf("Root(-1): %v", err)
	}
	if s, r, err := twain.Root(negZero); err != api.OK || bits(s) != 1<<63 || r != 0 {
		t.Errorf("Root(-0): %v, %v, %v", s, r, err)
	}
}
